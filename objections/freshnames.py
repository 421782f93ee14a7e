"""Names of further statements."""


def fresh_names(names, many):
    """So many names that are none of these."""
    fresh = [f"x{number}" for number in range(many + len(names))]
    return [name for name in fresh if name not in names][:many]
