"""Texts of mills, chains, courses and bars, and these read back."""

from millpapers.boxes import is_chain, need_chain
from millpapers.courses import is_bars, is_course
from millpapers.errors import InvalidItem, InvalidText
from millpapers.mills import need_mill
from millpapers.readers import MillReader
from millpapers.tables import tables_of
from millpapers.words import block_in, block_line, box_in, box_words, fraction_word, fractions_in, lines_of
from millpapers.words import text_of, whole_in


def mill_text(mill):
    """Return the text of a mill."""
    need_mill(mill)
    lines = ["mill"]
    for name, room in mill.stuffs():
        lines.append(" ".join(["stuff", name, "*" if room is None else str(room)]))
    for name, takes, gives in mill.recipes():
        lines.append(" ".join(["recipe", name, "take", *_side_words(takes), "give", *_side_words(gives)]))
    return text_of(lines)


def chain_text(mill, chain):
    """Return the text of a chain."""
    need_chain(tables_of(mill), chain)
    return text_of(["chain", *[" ".join(["box", *box_words(box)]) for box in chain]])


def course_text(mill, chain, value):
    """Return the text of a course through a chain."""
    if not is_course(mill, chain, value):
        raise InvalidItem(value)
    have, rows = value
    lines = ["course", _numbers_line("have", have)]
    for row in rows:
        lines.append("row")
        lines.extend([block_line(block) for block in row])
    return text_of(lines)


def bars_text(mill, chain, value):
    """Return the text of bars of a chain."""
    if not is_bars(mill, chain, value):
        raise InvalidItem(value)
    lines = ["bars"]
    for word, what in value:
        if word in ("begin", "end"):
            lines.append(f"{word} {what}")
        else:
            lines.append(word)
            lines.extend([_numbers_line("leg", worths) for worths in what])
    return text_of(lines)


def read_mill(text):
    """Return the mill whose text this is."""
    reader = MillReader()
    lines = _need_lines(text)
    if not all([reader.reads(words) for words in lines]) or not reader.is_whole():
        raise InvalidText(text)
    return reader.mill()


def read_chain(mill, text):
    """Return the chain of a mill whose text this is."""
    tables = tables_of(mill)
    head, *lines = _need_lines(text)
    chain = [box_in(words[1:]) for words in lines if words[0] == "box"]
    if head != ["chain"] or len(chain) < len(lines) or not is_chain(tables, chain):
        raise InvalidText(text)
    return chain


def read_course(mill, chain, text):
    """Return the course through a chain whose text this is."""
    need_chain(tables_of(mill), chain)
    value = _course_in(_need_lines(text))
    if value is None or not is_course(mill, chain, value):
        raise InvalidText(text)
    return value


def read_bars(mill, chain, text):
    """Return the bars of a chain whose text this is."""
    need_chain(tables_of(mill), chain)
    value = _bars_in(_need_lines(text))
    if value is None or not is_bars(mill, chain, value):
        raise InvalidText(text)
    return value


def wrong_line(text):
    """Return the number of the first line with which no text of a mill goes on, None if this is one."""
    if not isinstance(text, str):
        raise InvalidText(text)
    *lines, torn = text.split("\n")
    reader = MillReader()
    for place, line in enumerate(lines):
        if not reader.reads(line.split(" ")):
            return place + 1
    return None if torn == "" and reader.is_whole() else len(lines) + 1


def _need_lines(text):
    """Return the lines of a text, each as its list of words; raise InvalidText unless it has any."""
    if not isinstance(text, str):
        raise InvalidText(text)
    lines = lines_of(text)
    if not lines:
        raise InvalidText(text)
    return lines


def _side_words(side):
    return [word for stuff, number in side for word in (str(number), stuff)]


def _numbers_line(word, numbers):
    return " ".join([word, *[fraction_word(number) for number in numbers]])


def _course_in(lines):
    """Return what lines tell as a course, None unless they are written just so."""
    if len(lines) < 2 or lines[0] != ["course"] or lines[1][0] != "have":
        return None
    rows = []
    for words in lines[2:]:
        if words == ["row"]:
            rows.append([])
            continue
        block = block_in(words)
        if block is None or not rows:
            return None
        rows[-1].append(block)
    return (fractions_in(lines[1][1:]), rows)


def _bars_in(lines):
    """Return what lines tell as bars, None unless they are written just so."""
    stages = []
    for words in lines[1:]:
        if words in (["tight"], ["worths"]):
            stages.append((words[0], []))
        elif words[0] in ("begin", "end") and len(words) == 2:
            stages.append((words[0], whole_in(words[1])))
        elif words[0] == "leg" and stages and isinstance(stages[-1][1], list):
            stages[-1][1].append(fractions_in(words[1:]))
        else:
            return None
    return stages if lines[0] == ["bars"] else None
