"""Statements that object to one another: each module is imported by its own name."""
