"""What the whole package asks of plain things, whatever they are."""


def is_whole(thing):
    """Whether a thing is a whole number; a truth is none."""
    return isinstance(thing, int) and not isinstance(thing, bool)


def has_parts(thing, many):
    """Whether a thing is a tuple of so many parts."""
    return isinstance(thing, tuple) and len(thing) == many


def is_same(thing, told):
    """Whether a thing is the one told, which is made of tuples, lists, texts, whole numbers, truths and None."""
    if isinstance(told, tuple):
        return has_parts(thing, len(told)) and are_same(thing, told)
    if isinstance(told, list):
        return isinstance(thing, list) and len(thing) == len(told) and are_same(thing, told)
    # Python calls True and 1 equal, the document doesn't.
    return isinstance(thing, bool) == isinstance(told, bool) and thing == told


def are_same(things, told):
    """Whether each of these things is the one told in its place; there are as many of them."""
    return all([is_same(thing, due) for thing, due in zip(things, told)])
