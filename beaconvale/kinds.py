"""Of what kind a value is, where a value of any kind may be handed in."""


def is_whole(value):
    # Python counts True and False among the whole numbers; the program does not.
    return isinstance(value, int) and not isinstance(value, bool)
