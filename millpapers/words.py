"""The words and lines of texts: how numbers, fractions, boxes and blocks are written and read."""

from math import gcd

FIGURES = "0123456789"
# Python reads none longer than these; what texts have to hold is far shorter.
MOST_FIGURES = 4300


def fraction_word(amount):
    return str(amount[0]) if amount[1] == 1 else f"{amount[0]}/{amount[1]}"


def high_word(high):
    """Return the word of a high."""
    return "*" if high is None else fraction_word(high)


def span_words(span):
    """Return the two words of a low and a high."""
    return [fraction_word(span[0]), high_word(span[1])]


def box_words(box):
    return [word for span in box for word in span_words(span)]


def block_line(block):
    words = ["block", str(block[0])]
    for recipe, amount in block[1]:
        words.extend([recipe, fraction_word(amount)])
    return " ".join(words)


def text_of(lines):
    return "".join([f"{line}\n" for line in lines])


def lines_of(text):
    """Return the lines of a string, each as its list of words, or None unless there is a line end behind each."""
    lines = text.split("\n")
    return [line.split(" ") for line in lines[:-1]] if lines[-1] == "" else None


def whole_in(word):
    """Return the whole number of a word, None unless it is written just so."""
    figures = word[1:] if word.startswith("-") else word
    if not 1 <= len(figures) <= MOST_FIGURES or not all([sign in FIGURES for sign in figures]):
        return None
    if figures[0] == "0" and len(word) > 1:
        return None
    return int(word)


def fraction_in(word):
    """Return the fraction of a word, None unless it is written just so."""
    over, stroke, below = word.partition("/")
    top, under = whole_in(over), whole_in(below) if stroke else 1
    if top is None or under is None:
        return None
    if stroke and (under < 2 or gcd(top, under) != 1):
        return None
    return (top, under)


def high_in(word):
    """Return the tuple of just the high of a word, None unless it is written just so."""
    if word == "*":
        return (None,)
    high = fraction_in(word)
    return None if high is None else (high,)


def fractions_in(words):
    """Return the list of the fractions of words, None unless all are written just so."""
    found = [fraction_in(word) for word in words]
    return None if None in found else found


def span_in(words):
    """Return the low and the high of two words, None unless they are written just so."""
    if len(words) != 2:
        return None
    low, high = fraction_in(words[0]), high_in(words[1])
    return None if low is None or high is None else (low, high[0])


def box_in(words):
    """Return the box of words, None unless they are written just so."""
    found = [span_in(words[place:place + 2]) for place in range(0, len(words), 2)]
    return None if None in found else found


def block_in(words):
    """Return the block of the words of a line, None unless they are written just so."""
    if len(words) < 4 or words[0] != "block" or len(words) % 2 == 1:
        return None
    times, amounts = whole_in(words[1]), fractions_in(words[3::2])
    if times is None or amounts is None:
        return None
    return (times, list(zip(words[2::2], amounts)))
