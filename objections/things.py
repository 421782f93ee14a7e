"""What the objects of this package have in common."""


class Thing:
    """Stands above each class of the package that is no error, so that its objects are told from functions."""
