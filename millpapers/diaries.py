"""Diaries of mills as texts and back, also of texts that are torn."""

from millpapers.deeds import is_deed
from millpapers.errors import InvalidItem, InvalidList, InvalidText
from millpapers.tables import tables_of
from millpapers.words import block_in, block_line, box_in, box_words, fraction_in, fraction_word, lines_of, span_in
from millpapers.words import span_words, text_of, whole_in


def diary_text(mill, deeds):
    """Return the text of a diary."""
    tables = tables_of(mill)
    if not isinstance(deeds, list):
        raise InvalidList(deeds)
    lines = ["diary"]
    for deed in deeds:
        if not is_deed(tables, deed):
            raise InvalidItem(deed)
        lines.extend(_deed_lines(deed))
    return text_of(lines)


def read_diary(mill, text):
    """Return the diary whose text this is."""
    tables = tables_of(mill)
    if not isinstance(text, str):
        raise InvalidText(text)
    lines = lines_of(text)
    if not lines or lines[0] != ["diary"]:
        raise InvalidText(text)
    deeds, read = _first_deeds(tables, lines)
    if read < len(lines):
        raise InvalidText(text)
    return deeds


def kept_deeds(mill, text):
    """Return the diary whose text is the longest beginning of a string that is one, None if none is."""
    tables = tables_of(mill)
    if not isinstance(text, str):
        raise InvalidText(text)
    whole, _, _ = text.rpartition("\n")
    lines = lines_of(whole + "\n")
    if lines[0] != ["diary"]:
        return None
    deeds, _ = _first_deeds(tables, lines)
    return deeds


def _deed_lines(deed):
    word, what = deed[0], deed[1]
    if word == "row":
        return [f"row {len(what)}", *[block_line(block) for block in what]]
    if word == "drop":
        return [f"drop {what}"]
    if word == "take_back":
        return [f"take_back {what} {deed[2]}"]
    if word == "keep":
        return [" ".join(["keep", what, *box_words(deed[2])])]
    if word == "tell":
        at, stuff, low, high = deed[2]
        return [" ".join(["tell", str(what), str(at), stuff, *span_words((low, high))])]
    return [f"{word} {what} {fraction_word(deed[2])}"]


def _first_deeds(tables, lines):
    """Return the deeds that lines tell behind the first one, as far as they do, and how many lines are read then."""
    deeds, read = [], 1
    while read < len(lines):
        deed = _row_at(lines, read) if lines[read][0] == "row" else _deed_in(lines[read])
        if not is_deed(tables, deed):
            break
        deeds.append(deed)
        read += 1 + len(deed[1]) if deed[0] == "row" else 1
    return deeds, read


def _row_at(lines, place):
    """Return the row that lines tell from a place on, None unless they are written just so."""
    count = whole_in(lines[place][1]) if len(lines[place]) == 2 else None
    if count is None or not 0 <= count < len(lines) - place:
        return None
    blocks = [block_in(words) for words in lines[place + 1:place + 1 + count]]
    return None if None in blocks else ("row", blocks)


def _deed_in(words):
    """Return what the words of a line tell as a deed that is no row; it is none unless they are written just so."""
    word = words[0]
    if word == "keep" and len(words) > 2:
        return ("keep", words[1], box_in(words[2:]))
    if word == "drop" and len(words) == 2:
        return ("drop", words[1])
    if word == "tell" and len(words) == 6:
        span = span_in(words[4:])
        return None if span is None else ("tell", whole_in(words[1]), (whole_in(words[2]), words[3], span[0], span[1]))
    if word == "take_back" and len(words) == 3:
        return ("take_back", whole_in(words[1]), whole_in(words[2]))
    if word in ("step", "measure") and len(words) == 3:
        return (word, words[1], fraction_in(words[2]))
    return None
