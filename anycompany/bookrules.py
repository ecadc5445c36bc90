"""The rules of books: which lines of a text, each right by itself, cannot stand where they stand.

A line is a tuple of its first word and the values behind it, as reading.py makes it.
Lines are counted from 0 here.
"""

from anycompany.errors import InvalidDiscount
from anycompany.games import check_discount
from anycompany.ratio import compare, total


class Layout:
    """What stands where among the lines of a text."""

    def __init__(self, lines):
        self.lines = lines
        # For each line the last game line before it, or None.
        self.heads = []
        # The number of states of each game line.
        self.sizes = {}
        # The first game line with each name.
        self.games = {}
        self.first_place = len(lines)
        self.look()

    def look(self):
        """Goes once through all lines."""
        head = None
        counting = False
        for at in range(len(self.lines)):
            line = self.lines[at]
            self.heads.append(head)
            if line[0] == "game":
                head = at
                counting = True
                self.sizes[at] = 0
                self.games.setdefault(line[1], at)
            elif line[0] == "state" and counting:
                self.sizes[head] += 1
            elif line[0] == "place":
                # State lines behind a place line are not counted for the game above it.
                counting = False
                self.first_place = min(self.first_place, at)

    def word(self, at):
        """Returns the first word of a line, or None behind the last line."""
        if at == len(self.lines):
            return None
        return self.lines[at][0]

    def is_wrong(self, at):
        """Returns True if the line breaks a rule."""
        line = self.lines[at]
        if at == 0:
            return line[0] != "discount" or not is_discount(line[1])
        if line[0] == "game":
            return self.is_wrong_game(at)
        if line[0] == "state":
            return self.is_wrong_state(at)
        if line[0] == "to":
            return self.is_wrong_move(at)
        if line[0] == "place":
            return self.is_wrong_place(at)
        # Only the first line is a discount line.
        return True

    def is_wrong_game(self, at):
        return self.games[self.lines[at][1]] < at or self.word(at + 1) != "state" or self.first_place < at

    def is_wrong_state(self, at):
        if self.heads[at] is None or self.first_place < at:
            return True
        probabilities = []
        after = at + 1
        while self.word(after) == "to":
            probabilities.append(self.lines[after][2])
            after += 1
        return total(probabilities) != (1, 1)

    def is_wrong_move(self, at):
        _, target, probability = self.lines[at]
        before = self.word(at - 1)
        if before not in ("state", "to") or self.heads[at] is None:
            return True
        if before == "to" and target <= self.lines[at - 1][1]:
            return True
        return compare(probability, (0, 1)) <= 0 or target >= self.sizes[self.heads[at]]

    def is_wrong_place(self, at):
        _, name, state = self.lines[at]
        return name not in self.games or state >= self.sizes[self.games[name]]


def is_discount(ratio):
    """Returns True if the ratio is at least zero and less than one."""
    try:
        check_discount(ratio)
    except InvalidDiscount:
        return False
    return True


def first_wrong(lines):
    """Returns the first line that breaks a rule, or None if there is none."""
    layout = Layout(lines)
    for at in range(len(lines)):
        if layout.is_wrong(at):
            return at
    return None
