"""Claims: which values they are, which of them clash, and the chains that they leave."""

from millpapers.amounts import NOTHING, greater, is_less, lesser
from millpapers.boxes import is_span
from millpapers.kinds import is_tuple_of, is_whole


def is_claim(tables, value):
    """Return whether a value is a claim on the mill, at whatever moment."""
    if not is_tuple_of(value, 4) or not is_whole(value[0]) or value[0] < 0:
        return False
    if not isinstance(value[1], str) or value[1] not in tables.stuff_names:
        return False
    return is_span((value[2], value[3]), tables.rooms[tables.place_of_stuff(value[1])])


def do_clash(one, other):
    """Return whether two claims are on one stuff at one moment, and no amount lies in both."""
    return one[0] == other[0] and one[1] == other[1] and (_lies_above(one, other) or _lies_above(other, one))


def first_clash(claims):
    """Return the places of the first two of some claims that clash, None if none do."""
    for one, claim in enumerate(claims):
        for other in range(one + 1, len(claims)):
            if do_clash(claim, claims[other]):
                return (one, other)
    return None


def chain_of(tables, moments, claims):
    """Return the chain of the boxes that claims leave, one for each moment, None if two of them clash."""
    if first_clash(claims) is not None:
        return None
    chain = [[(NOTHING, None) for _ in tables.rooms] for _ in range(moments)]
    for at, stuff, low, high in claims:
        place = tables.place_of_stuff(stuff)
        least, most = chain[at][place]
        if most is None or high is None:
            most = high if most is None else most
        else:
            most = lesser(most, high)
        chain[at][place] = (greater(least, low), most)
    return chain


def _lies_above(one, other):
    """Return whether the low of a claim is above the high of another one."""
    return other[3] is not None and is_less(other[3], one[2])
