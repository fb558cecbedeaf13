"""Forms that anything is asked for: pairs that begin with a word."""


def word_of(thing):
    """The text that anything begins with that is a tuple of two; None of all else."""
    if not isinstance(thing, tuple) or len(thing) != 2 or not isinstance(thing[0], str):
        return None
    return thing[0]
