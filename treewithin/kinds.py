"""What kind a thing is: the helper of all modules that are asked of anything.

A thing may be of any kind, its own comparison may even fail. So its kind is
asked first, and it is compared only when it is known to be harmless.
"""


def is_whole(thing):
    """Whether it is a whole number; a truth is none."""
    return isinstance(thing, int) and not isinstance(thing, bool)


def is_row(thing, many):
    """Whether it is a tuple of so many."""
    return isinstance(thing, tuple) and len(thing) == many
