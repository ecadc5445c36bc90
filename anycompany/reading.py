"""Reading ratios and books from text."""

from math import gcd

from anycompany.bookrules import first_wrong
from anycompany.errors import BadBook, BadLine

# No integer in a text has more digits.
MOST_DIGITS = 60
MOST_LETTERS = 20


def read_ratio(text):
    """Returns the ratio whose text it is, or None if it is not the text of a ratio."""
    left, slash, right = text.partition("/")
    n = read_integer(left)
    d = 1
    if slash != "":
        d = read_denominator(right)
    if n is None or d is None or gcd(n, d) != 1:
        return None
    return (n, d)


def read_denominator(text):
    """Returns the denominator of at least 2 whose text it is, or None."""
    d = read_count(text)
    if d is None or d < 2:
        return None
    return d


def read_integer(text):
    """Returns the integer whose text it is, or None."""
    if not text.startswith("-"):
        return read_count(text)
    size = read_count(text[1:])
    if size is None or size == 0:
        return None
    return -size


def read_count(text):
    """Returns the integer of at least zero whose text it is, or None."""
    # The length is looked at first, because Python refuses to make integers of very long texts.
    if len(text) < 1 or len(text) > MOST_DIGITS or not has_only(text, "0123456789"):
        return None
    if text.startswith("0") and text != "0":
        return None
    return int(text)


def read_name(text):
    """Returns the name whose text it is, or None."""
    if len(text) < 1 or len(text) > MOST_LETTERS or not has_only(text, "abcdefghijklmnopqrstuvwxyz"):
        return None
    return text


def has_only(text, signs):
    return all([sign in signs for sign in text])


def read_book(text):
    """Returns the book whose text it is."""
    lines = read_lines(text)
    wrong = first_wrong(lines)
    if wrong is not None:
        raise BadBook(wrong + 1)
    return book_of(lines)


def read_lines(text):
    """Returns the list of the lines of a text, each as a tuple of its first word and the values behind it."""
    pieces = text.split("\n")
    lines = []
    for piece in pieces[:-1]:
        line = read_line(piece)
        if line is None:
            raise BadLine(len(lines) + 1)
        lines.append(line)
    # What stands behind the last newline character is a line that is not ended; the empty text is one, too.
    if len(lines) == 0 or pieces[-1] != "":
        raise BadLine(len(pieces))
    return lines


def read_line(text):
    """Returns the tuple of the first word of a line and the values behind it, or None if it has no form."""
    words = text.split(" ")
    match words:
        case ["discount", word]:
            values = (read_ratio(word),)
        case ["game", word]:
            values = (read_name(word),)
        case ["state", word]:
            values = (read_ratio(word),)
        case ["to", word, other]:
            values = (read_count(word), read_ratio(other))
        case ["place", word, other]:
            values = (read_name(word), read_count(other))
        case _:
            return None
    if None in values:
        return None
    return (words[0],) + values


def book_of(lines):
    """Returns the book of lines that break no rule."""
    games = []
    places = []
    for line in lines[1:]:
        if line[0] == "game":
            games.append((line[1], [], []))
        elif line[0] == "state":
            _, rewards, rows = games[-1]
            rewards.append(line[1])
            rows.append([])
        elif line[0] == "to":
            games[-1][2][-1].append(line[1:])
        else:
            places.append(line[1:])
    told = [(name, (tuple(rewards), tuple([tuple(row) for row in rows]))) for name, rewards, rows in games]
    return (lines[0][1], tuple(told), tuple(places))


def company_of(book):
    """Returns the tuple of the places of the book, each as a tuple (game, state)."""
    _, games, places = book
    known = {name: game for name, game in games}
    return tuple([(known[name], state) for name, state in places])
