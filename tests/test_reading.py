import random
import re
import unittest
from fractions import Fraction

from anycompany.errors import BadBook, BadLine
from anycompany.reading import company_of, read_book, read_ratio
from anycompany.writing import write_book
from tests.support import COIN, HALF, ErrorTest, books, frac, is_frozen, is_proper

HALF_GAME = (((1, 2),), (((0, (1, 1)),),))
NINES = "9" * 60
R = r"(0|-?[1-9][0-9]{0,59})(/[1-9][0-9]{0,59})?"
K = r"(0|[1-9][0-9]{0,59})"
NAME = r"[a-z]{1,20}"
FORMS = re.compile(f"discount {R}|game {NAME}|state {R}|to {K} {R}|place {NAME} {K}")
GOOD = """discount 1/2
game coin
state 1
to 0 1/2
to 1 1/2
state 0
to 1 1
game half
state 1/2
to 0 1
place coin 1
place half 0
place coin 0
"""


def has_form(line):
    if not FORMS.fullmatch(line):
        return False
    parts = [word.split("/") for word in line.split(" ") if "/" in word]
    return all(int(d) > 1 and str(Fraction(int(n), int(d))) == f"{n}/{d}" for n, d in parts)


def wrong_line(text):
    """The line that has no form, told in another way than by the program, or None."""
    ended = text.split("\n")[:-1]
    for number, line in enumerate(ended, 1):
        if not has_form(line):
            return number
    if text == "" or not text.endswith("\n"):
        return len(ended) + 1
    return None


def wrong_books(text):
    """All lines that break a rule of books, told in another way than by the program."""
    rows = [line.split(" ") for line in text.split("\n")[:-1]]
    words = "".join({"discount": "d", "game": "g", "state": "s", "to": "t", "place": "p"}[row[0]] for row in rows)
    sizes = {at: re.match(r"[^gp]*", words[at + 1:]).group().count("s") for at in range(len(words)) if words[at] == "g"}
    names = {}
    for at in sizes:
        names.setdefault(rows[at][1], at)
    found = []
    for at, (word, row) in enumerate(zip(words, rows)):
        heads = [head for head in sizes if head < at]
        good = (word == "d") == (at == 0)
        if word == "d":
            good = good and 0 <= Fraction(row[1]) < 1
        if word == "g":
            good = good and names[row[1]] == at and words[at + 1:at + 2] == "s"
        if word in "gs":
            good = good and "p" not in words[:at]
        if word == "s":
            run = re.match("t*", words[at + 1:]).group()
            good = good and heads and sum(Fraction(rows[at + 1 + k][2]) for k in range(len(run))) == 1
        if word == "t":
            good = good and words[at - 1] in "st" and Fraction(row[2]) > 0 and heads and int(row[1]) < sizes[heads[-1]]
            good = good and (words[at - 1] != "t" or int(row[1]) > int(rows[at - 1][1]))
        if word == "p":
            good = good and row[1] in names and int(row[2]) < sizes[names[row[1]]]
        if not good:
            found.append(at + 1)
    return found


class ReadRatio(unittest.TestCase):
    def test_told(self):
        for text, ratio in (
                ("0", (0, 1)), ("7", (7, 1)), ("-7", (-7, 1)), ("1/2", (1, 2)), ("-3/2", (-3, 2)), ("10/3", (10, 3)),
                ("100", (100, 1)), (NINES, (10 ** 60 - 1, 1)), ("-" + NINES, (1 - 10 ** 60, 1)),
                ("1/" + NINES, (1, 10 ** 60 - 1)), ("-1" + "0" * 59 + "/" + NINES, (-10 ** 59, 10 ** 60 - 1))):
            found = read_ratio(text)
            self.assertEqual(found, ratio)
            self.assertTrue(is_proper(found))

    def test_texts_of_no_ratio(self):
        for text in (
                "", " ", "-", "/", "--1", "+1", "-0", "00", "01", "-01", "007", "1/", "/2", "1/0", "1/1", "0/1", "0/2",
                "-0/2", "1/-2", "1/02", "01/2", "2/4", "6/3", "-2/2", "3/9", "1/2/3", "1//2", "/1/2", "1/2/", " 1",
                "1 ", "1 /2", "1/ 2", "1/2 ", "1 2", "1_0", "1.0", "0.5", "1e3", "0x10", "a", "1a", "1/a", "1\n", "\n1",
                "1/2\n", "-1/-2", "- 1", "1-", "1-1", "1/+2", "None", "True"):
            self.assertIsNone(read_ratio(text), text)

    def test_more_than_sixty_digits(self):
        long = "1" + "0" * 60
        for text in (long, "-" + long, "1/" + long, long + "/7", "-" + long + "/7", "0" * 61, "0" * 20000,
                     "7" * 5000, "-" + "7" * 5000, "1/" + "7" * 19000, "7" * 9000 + "/" + "7" * 9000):
            self.assertIsNone(read_ratio(text))

    def test_short_texts_of_few_signs(self):
        texts = [""]
        for _ in range(5):
            texts = [text + sign for text in texts for sign in "-/0124"]
            for text in texts:
                wanted = None
                if re.fullmatch(R, text):
                    number = Fraction(*[int(part) or 10 ** 9 for part in text.split("/")]) if text != "0" else 0
                    if str(number) == text:
                        wanted = (number.numerator, number.denominator) if text != "0" else (0, 1)
                self.assertEqual(read_ratio(text), wanted, text)


class ReadBook(ErrorTest):
    def check_text(self, text):
        """The text gives its book, or the error that the document tells."""
        wrong = wrong_line(text)
        if wrong is not None:
            self.check_error(BadLine, lambda: read_book(text), line=wrong)
            return "line"
        broken = wrong_books(text)
        if broken:
            self.check_error(BadBook, lambda: read_book(text), line=broken[0])
            return "book"
        book = read_book(text)
        self.assertEqual(write_book(book), text)
        return "right"

    def bad_line(self, text, line):
        self.assertEqual(wrong_line(text), line)
        self.check_error(BadLine, lambda: read_book(text), line=line)

    def bad_book(self, text, line):
        self.assertIsNone(wrong_line(text))
        self.assertEqual(wrong_books(text)[0], line)
        self.check_error(BadBook, lambda: read_book(text), line=line)

    def test_books_come_back(self):
        for book in books():
            found = read_book(write_book(book))
            self.assertEqual(found, book)
            discount, games, places = found
            self.assertTrue(is_frozen((discount,) + tuple(game for _, game in games)))
            self.assertIs(type(games), tuple)
            self.assertIs(type(places), tuple)
            self.assertTrue(all(type(row) is tuple for row in games + places))

    def test_told(self):
        self.assertEqual(read_book(GOOD), (HALF, (("coin", COIN), ("half", HALF_GAME)),
                                           (("coin", 1), ("half", 0), ("coin", 0))))
        self.assertEqual(read_book("discount 0\n"), ((0, 1), (), ()))
        self.assertEqual(read_book("discount " + "9" * 59 + "/1" + "0" * 59 + "\n"), ((10 ** 59 - 1, 10 ** 59), (), ()))

    def test_lines_without_a_form(self):
        lines = GOOD.split("\n")[:-1]
        for bad in (
                "", " ", "discount", "discount ", "discount 1/2 ", " discount 1/2", "discount  1/2", "discount 1/2 0",
                "Discount 1/2", "discount 2/4", "discount 1/1", "discount +1", "discount -0", "discount x",
                "discount " + "1" * 61, "discount 1/" + "1" * 61, "game", "game ", "game a b", "game A", "game aB",
                "game a1", "game a_b", "game a-b", "game " + "a" * 21, "game  a", "state", "state ", "state 01",
                "state 1/0", "state 1 2", "state " + NINES + "9", "state a", "to", "to 0", "to 0 ", "to 0 01",
                "to 00 1", "to 01 1", "to -1 1", "to -0 1", "to 1/2 1", "to 0  1", "to  0 1", "to 0 1 ", "to 0 1 1", "to a 1",
                "to +0 1", "to " + NINES + "9 1", "to 0 1/1", "place", "place a", "place a ", "place a -1",
                "place a 01", "place a 0 0", "place A 0", "place 0 a", "place " + "a" * 21 + " 0", "place a 1/2", "place a +1",
                "place  a 0", "place a  0", "place a 0 ", "place a " + NINES + "9", "stop", "rest", "to0 1", "#", "0"):
            for at in (0, 1, 5, len(lines)):
                self.bad_line("\n".join(lines[:at] + [bad] + lines[at:]) + "\n", at + 1)

    def test_lines_that_are_not_ended(self):
        self.bad_line("", 1)
        self.bad_line("discount 1/2", 1)
        self.bad_line("d", 1)
        self.bad_line("\n", 1)
        self.bad_line("\n\n", 1)
        self.bad_line("discount 1/2\n\n", 2)
        self.bad_line("discount 1/2\n ", 2)
        self.bad_line(GOOD[:-1], 13)
        self.bad_line(GOOD + "place coin 0", 14)
        self.bad_line(GOOD + "x", 14)
        self.bad_line(GOOD + "\n", 14)
        self.bad_line("x\ndiscount 1/2", 1)

    def test_very_long_lines(self):
        for text in ("7" * 19990, "discount " + "7" * 19980 + "\n", "game " + "a" * 19980 + "\n", " " * 20000,
                     "\n" * 20000):
            self.bad_line(text, 1)
        self.bad_line("discount 1/2\nto " + "1" * 19000 + " 1\n", 2)

    def test_bad_lines_come_before_bad_books(self):
        self.bad_line("place a 0\nto 3 1\nstate 7\nx\n", 4)
        self.bad_line("game a\ngame a", 2)
        self.bad_line("discount 2\ndiscount -1\ndiscount 1/1\n", 3)

    def test_discount_lines(self):
        for discount in ("1", "2", "-1", "-1/2", "3/2", NINES, "-1/" + NINES):
            self.bad_book(GOOD.replace("discount 1/2", "discount " + discount), 1)
        self.assertEqual(self.check_text(GOOD.replace("discount 1/2", "discount 1/" + NINES)), "right")
        self.bad_book("game a\nstate 0\nto 0 1\n", 1)
        self.bad_book("state 0\n", 1)
        self.bad_book("to 0 1\n", 1)
        self.bad_book("place a 0\n", 1)
        self.bad_book("game a\nstate 0\nto 0 1\ndiscount 1/2\n", 1)
        self.bad_book(GOOD + "discount 1/2\n", 14)
        self.bad_book("discount 1/2\ndiscount 1/2\n" + GOOD[13:], 2)
        lines = GOOD.split("\n")[:-1]
        for at in range(1, len(lines) + 1):
            text = "\n".join(lines[:at] + ["discount 1/3"] + lines[at:]) + "\n"
            # A line that needs its neighbours may be wrong before the second discount line is.
            self.assertIn(at + 1, wrong_books(text))
            self.assertEqual(self.check_text(text), "book")

    def test_game_lines(self):
        self.bad_book(GOOD.replace("game half", "game coin"), 8)
        self.bad_book("discount 0\ngame a\n", 2)
        self.bad_book("discount 0\ngame a\ngame b\nstate 0\nto 0 1\n", 2)
        self.bad_book("discount 0\ngame a\nto 0 1\n", 2)
        self.bad_book("discount 0\ngame a\nplace a 0\n", 2)
        self.bad_book("discount 0\ngame b\nstate 0\nto 0 1\nplace b 0\ngame a\nstate 0\nto 0 1\n", 6)
        self.bad_book("discount 0\nplace a 0\ngame a\nstate 0\nto 0 1\n", 3)
        self.bad_book("discount 0\ngame a\nstate 0\nto 0 1\ngame b\nstate 0\nto 0 1\ngame a\nstate 0\nto 0 1\n", 8)

    def test_state_lines(self):
        self.bad_book("discount 0\nstate 0\nto 0 1\n", 2)
        self.bad_book("discount 0\ngame a\nstate 0\n", 3)
        self.bad_book("discount 0\ngame a\nstate 0\nto 0 1/2\n", 3)
        self.bad_book("discount 0\ngame a\nstate 0\nto 0 1\nto 1 1\nstate 0\nto 0 1\n", 3)
        self.bad_book("discount 0\ngame a\nstate 0\nstate 0\nto 0 1\n", 3)
        self.bad_book("discount 0\ngame a\nstate 0\nto 0 1\nplace a 0\nstate 0\nto 0 1\n", 6)
        # The sum is one, whatever else is wrong with the to lines.
        self.bad_book("discount 0\ngame a\nstate 0\nto 7 2\nto 0 -1\n", 4)
        self.bad_book("discount 0\ngame a\nstate 0\nto 0 1/2\nto 0 1/2\n", 5)
        # What is behind another line does not count.
        self.bad_book("discount 0\ngame a\nstate 0\nto 0 1/2\nplace a 0\nto 0 1/2\n", 3)
        self.bad_book("discount 0\ngame a\nstate 0\nto 0 1\nplace a 0\nto 0 1/2\n", 6)

    def test_to_lines(self):
        start = "discount 0\ngame a\nstate 0\n"
        self.bad_book("discount 0\nto 0 1\ngame a\nstate 0\nto 0 1\n", 2)
        self.bad_book("discount 0\ngame a\nstate 0\nto 0 1\nplace a 0\nto 0 1\n", 6)
        self.bad_book(start + "to 0 1\nto 1 0\nstate 0\nto 0 1\n", 5)
        self.bad_book(start + "to 0 2\nto 1 -1\nstate 0\nto 0 1\n", 5)
        self.bad_book(start + "to 1 1\n", 4)
        self.bad_book(start + "to 2 1\nstate 0\nto 0 1\n", 4)
        self.bad_book(start + "to " + NINES + " 1\n", 4)
        self.bad_book(start + "to 1 1/2\nto 0 1/2\nstate 0\nto 0 1\n", 5)
        self.bad_book(start + "to 1 1/2\nto 1 1/2\nstate 0\nto 0 1\n", 5)
        # The states of the next game are not its own, those behind a place line neither.
        self.bad_book(start + "to 1 1\ngame b\nstate 0\nto 0 1\nstate 0\nto 0 1\n", 4)
        self.bad_book(start + "to 1 1\nplace a 0\nstate 0\nto 0 1\n", 4)
        # Those behind a second discount line are; the discount line itself is the first wrong line then.
        self.bad_book(start + "to 1 1\ndiscount 0\nstate 0\nto 0 1\n", 5)
        # After another line the targets start anew.
        self.assertEqual(self.check_text(start + "to 0 1/2\nto 1 1/2\nstate 0\nto 0 1\n"), "right")

    def test_place_lines(self):
        start = "discount 0\ngame a\nstate 0\nto 0 1\n"
        self.bad_book(start + "place b 0\n", 5)
        self.bad_book(start + "place a 1\n", 5)
        self.bad_book(start + "place a " + NINES + "\n", 5)
        self.bad_book(start + "place a 0\nplace a 1\n", 6)
        self.bad_book("discount 0\nplace a 0\n", 2)
        # The game stands below, so only its own line is wrong.
        self.bad_book("discount 0\nplace a 0\ngame a\nstate 0\nto 0 1\n", 3)
        self.bad_book("discount 0\nplace a 1\ngame a\nstate 0\nto 0 1\n", 2)
        # The first game with the name counts.
        two = "game a\nstate 0\nto 0 1\n"
        more = "game a\nstate 0\nto 0 1\nstate 0\nto 0 1\n"
        self.bad_book("discount 0\nplace a 1\n" + two + more, 2)
        self.bad_book("discount 0\nplace a 1\n" + more + two, 3)
        # A game without a state has no place.
        self.bad_book("discount 0\nplace a 0\ngame a\n", 2)

    def test_several_at_once(self):
        self.bad_book("game a\ngame a\nto 0 0\nplace b 9\ndiscount 7\n", 1)
        self.bad_book("discount 0\ngame a\nstate 0\nto 0 1\ngame a\nstate 0\nplace b 0\n", 5)
        self.bad_book("discount 0\ngame a\nstate 0\nto 9 1\nplace b 0\nstate 7\nto 0 1\n", 4)

    def test_changed_lines(self):
        seen = {"line": 0, "book": 0, "right": 0}
        rng = random.Random(11)
        texts = [write_book(book) for book in books()] + [GOOD] * 6
        words = ["discount 0", "discount 1", "game coin", "game b", "state 0", "state -7/3", "to 0 1", "to 1 1/2",
                 "to 0 1/2", "to 2 -1", "to 1 0", "place coin 0", "place coin 1", "place b 0", "place half 7", "", "to"]
        for text in texts:
            for _ in range(150):
                lines = text.split("\n")[:-1]
                for _ in range(rng.choice((1, 1, 2, 3))):
                    at = rng.randrange(len(lines) + 1)
                    kind = rng.randrange(4)
                    if kind == 0:
                        lines[at:at + 1] = []
                    elif kind == 1:
                        lines.insert(at, rng.choice(words))
                    elif kind == 2:
                        lines.insert(at, rng.choice(lines or words))
                    else:
                        there = rng.randrange(len(lines) + 1)
                        lines[at:at + 1], lines[there:there + 1] = lines[there:there + 1], lines[at:at + 1]
                seen[self.check_text("".join(line + "\n" for line in lines))] += 1
        self.assertTrue(all(many > 30 for many in seen.values()), seen)

    def test_changed_signs(self):
        rng = random.Random(12)
        seen = {"line": 0, "book": 0, "right": 0}
        for _ in range(1500):
            at = rng.randrange(len(GOOD))
            sign = rng.choice("0129/- abgst\n")
            text = GOOD[:at] + rng.choice(("", sign, sign + GOOD[at])) + GOOD[at + 1:]
            seen[self.check_text(text)] += 1
        self.assertTrue(all(many > 10 for many in seen.values()), seen)

    def test_many_states(self):
        # A text may have more states than a game of the other functions.
        lines = ["discount 1/2", "game a"]
        for state in range(900):
            lines += [f"state {state}", f"to {899 - state} 1"]
        text = "\n".join(lines) + "\nplace a 899\n"
        self.assertEqual(self.check_text(text), "right")
        self.bad_book(text.replace("place a 899", "place a 900"), 1803)
        primes = [10 ** 59 + k for k in range(1, 200, 2)]
        parts = [(k, Fraction(1, prime)) for k, prime in enumerate(primes)]
        parts.append((len(parts), 1 - Fraction(1, 2)))
        text = "discount 0\ngame a\nstate 0\n" + "".join(f"to {k} {part}\n" for k, part in parts)
        self.bad_book(text, 3)


class CompanyOf(unittest.TestCase):
    def test_places_of_the_book(self):
        for book in books():
            _, games, places = book
            company = company_of(book)
            self.assertTrue(is_frozen(company))
            self.assertEqual(company, tuple((dict(games)[name], state) for name, state in places))

    def test_told(self):
        self.assertEqual(company_of(((0, 1), (), ())), ())
        self.assertEqual(company_of((HALF, (("a", COIN),), ())), ())
        self.assertEqual(company_of(read_book(GOOD)), ((COIN, 1), (HALF_GAME, 0), (COIN, 0)))
        self.assertEqual(frac(company_of(read_book(GOOD))[1][0][0][0]), Fraction(1, 2))


if __name__ == "__main__":
    unittest.main()
