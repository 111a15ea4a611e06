"""Lists from whose end things are taken, for walks from below without recursion."""


def taken(made, many):
    """Take so many things off the end of a list: a list of them, the last one first."""
    start = len(made) - many
    found = made[start:]
    del made[start:]
    return found[::-1]
