"""Plans for rows that are to be sure: which arguments they are, and the doubled chain that judges them."""

from millpapers.amounts import NOTHING
from millpapers.bands import need_bands
from millpapers.boxes import nailed, need_box
from millpapers.errors import InvalidList, InvalidMill
from millpapers.kinds import is_list_within
from millpapers.steps import need_holdings
from millpapers.tables import tables_of

MOST_STUFFS = 4
MOST_ROWS = 4


def need_small(mill):
    """Return the tables of a mill; raise InvalidMill unless it is one of so few stuffs that it can be doubled."""
    tables = tables_of(mill)
    if len(tables.rooms) > MOST_STUFFS:
        raise InvalidMill(mill)
    return tables


def need_boxes(tables, boxes):
    """Raise InvalidList unless the argument is a list of 1 to 4 items, then InvalidBox with the first that is none."""
    if not is_list_within(boxes, 1, MOST_ROWS):
        raise InvalidList(boxes)
    for box in boxes:
        need_box(tables, box)


def need_plan(mill, bands, have, boxes):
    """Return the tables of a mill; raise the error of the first argument that does not fit."""
    tables = need_small(mill)
    need_bands(tables, bands)
    need_holdings(tables, have)
    need_boxes(tables, boxes)
    return tables


def doubled_chain(have, boxes):
    """Return the chain of the doubled mill: the lows hold for the least stuffs, the highs for the most ones."""
    chain = [nailed([*have, *have])]
    for box in boxes:
        chain.append([(low, None) for low, _ in box] + [(NOTHING, high) for _, high in box])
    return chain
