import unittest

from anycompany.reading import read_book, read_ratio
from anycompany.writing import write_book, write_ratio
from tests.support import COIN, HALF, books

HALF_GAME = (((1, 2),), (((0, (1, 1)),),))


class WriteRatio(unittest.TestCase):
    def test_told(self):
        for ratio, text in (
                ((0, 1), "0"), ((1, 1), "1"), ((-1, 1), "-1"), ((1, 2), "1/2"), ((-1, 2), "-1/2"), ((70, 3), "70/3"),
                ((-100, 1), "-100"), ((1, 1000), "1/1000"), ((10 ** 59, 10 ** 60 - 1), "1" + "0" * 59 + "/" + "9" * 60),
                ((1 - 10 ** 60, 17), "-" + "9" * 60 + "/17")):
            self.assertEqual(write_ratio(ratio), text)
            self.assertEqual(read_ratio(text), ratio)


class WriteBook(unittest.TestCase):
    def test_told(self):
        self.assertEqual(write_book(((1, 2), (("half", HALF_GAME),), (("half", 0),))),
                         "discount 1/2\ngame half\nstate 1/2\nto 0 1\nplace half 0\n")
        self.assertEqual(write_book(((0, 1), (), ())), "discount 0\n")
        self.assertEqual(write_book((HALF, (("coin", COIN),), ())),
                         "discount 1/2\ngame coin\nstate 1\nto 0 1/2\nto 1 1/2\nstate 0\nto 1 1\n")
        self.assertEqual(
            write_book(((9, 10), (("b", HALF_GAME), ("a", HALF_GAME)), (("a", 0), ("b", 0), ("a", 0)))),
            "discount 9/10\ngame b\nstate 1/2\nto 0 1\ngame a\nstate 1/2\nto 0 1\nplace a 0\nplace b 0\nplace a 0\n")

    def test_lines(self):
        for discount, games, places in books():
            text = write_book((discount, games, places))
            self.assertIs(type(text), str)
            self.assertTrue(text.endswith("\n"))
            lines = text.split("\n")[:-1]
            wanted = ["discount " + write_ratio(discount)]
            for name, (rewards, moves) in games:
                wanted.append("game " + name)
                for reward, row in zip(rewards, moves):
                    wanted.append("state " + write_ratio(reward))
                    wanted += [f"to {target} {write_ratio(probability)}" for target, probability in row]
            wanted += [f"place {name} {state}" for name, state in places]
            self.assertEqual(lines, wanted)
            self.assertTrue(all(line == " ".join(line.split()) for line in lines))

    def test_reading_it_again(self):
        for book in books():
            self.assertEqual(read_book(write_book(book)), book)


if __name__ == "__main__":
    unittest.main()
