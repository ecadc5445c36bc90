import copy
import random
import unittest
from fractions import Fraction

from anycompany.building import steady
from anycompany.companies import best_gain, step_cost
from anycompany.errors import (
    BadDeed, BadState, ImpossibleOutcome, InvalidDiscount, NothingToUndo, UnknownGame,
)
from anycompany.house import House
from anycompany.indices import indices
from anycompany.tables import joint_states, value_table
from tests.support import (
    COIN, DISCOUNTS, GREAT_NUMBERS, HAIR, HALF, ErrorTest, frac, games, is_frozen, is_proper, random_game, ratio_of,
    ring,
)

ZERO = (0, 1)
ONE = (1, 1)
FLAT = steady(HALF)
KINDS = [COIN, FLAT, ring(3), random_game(81, 3), random_game(82, 4), random_game(83, 2), games()[5]]


def seen(house):
    """All that can be asked of a house."""
    return (house.clock, house.places(), house.best_gain(), house.advice(), house.ledger())


class Diary:
    """A house told again: the deeds that count, each with what it brought, and what is worked out from them anew."""

    def __init__(self, discount, idle):
        self.discount = discount
        self.idle = idle
        self.rows = []

    def inside(self, many=None):
        found = {}
        for kind, number, place in self.rows[:many]:
            if kind == "leave":
                del found[number]
            elif kind != "rest":
                found[number] = place
        return found

    def next_number(self):
        return 1 + sum(kind == "enter" for kind, _, _ in self.rows)

    def company(self, many=None):
        found = self.inside(many)
        return tuple(found[number] for number in sorted(found)) + ((steady(self.idle), 0),)

    def gain(self, many=None):
        return frac(best_gain(self.company(many), self.discount))

    def ledger(self):
        b = frac(self.discount)
        changed = earned = lost = luck = Fraction(0)
        clock = 0
        for k, (kind, number, place) in enumerate(self.rows):
            weight = b ** clock
            before, after = self.gain(k), self.gain(k + 1)
            if kind in ("enter", "leave"):
                changed += weight * (after - before)
                continue
            clock += 1
            company = self.company(k)
            numbers = sorted(self.inside(k)) + [0]
            position = numbers.index(0 if kind == "rest" else number)
            game, state = company[position]
            cost = frac(step_cost(company, position, self.discount))
            earned += weight * frac(game[0][state])
            lost += weight * cost
            # The cost is the best gain minus the reward and the discounted expected best gain.
            if kind == "play":
                luck += weight * (b * after - (before - cost - frac(game[0][state])))
        opened = frac(self.idle) / (1 - b)
        return tuple(map(ratio_of, (opened, changed, earned, lost, luck, b ** clock * self.gain())))

    def advice(self):
        best, advised = frac(self.idle) / (1 - frac(self.discount)), 0
        for number, (game, state) in sorted(self.inside().items(), reverse=True):
            index = frac(indices(game, self.discount)[state])
            if index >= best:
                best, advised = index, number
        return advised

    def seen(self):
        clock = sum(kind in ("play", "rest") for kind, _, _ in self.rows)
        return (clock, tuple(sorted(self.inside().items())), ratio_of(self.gain()), self.advice(), self.ledger())


def random_deed(rng, diary):
    """A deed that can be done, with the row that it writes into the diary and its result."""
    inside = diary.inside()
    kind = rng.choice(["enter", "play", "play", "play", "rest", "leave"])
    if kind == "enter" and len(inside) < 4:
        game = rng.choice(KINDS)
        state = rng.randrange(len(game[0]))
        number = diary.next_number()
        return ("enter", game, state), ("enter", number, (game, state)), number
    if kind in ("play", "leave") and inside:
        number = rng.choice(sorted(inside))
        game, state = inside[number]
        if kind == "leave":
            return ("leave", number), ("leave", number, None), None
        target = rng.choice(game[1][state])[0]
        return ("play", number, target), ("play", number, (game, target)), game[0][state]
    return ("rest",), ("rest", 0, None), diary.idle


def done(house, deed):
    return getattr(house, deed[0])(*deed[1:])


class NewHouse(ErrorTest):
    def test_wrong_discounts(self):
        for discount in ((-1, 2), (-1, 10 ** 30), ONE, (10 ** 30 + 1, 10 ** 30), (7, 1)):
            self.check_error(InvalidDiscount, lambda wrong=discount: House(wrong))
            self.check_error(InvalidDiscount, lambda wrong=discount: House(wrong, idle=(3, 1)))

    def test_without_games(self):
        for discount in DISCOUNTS:
            for idle in (ZERO, (5, 3), (-7, 2), (10 ** 40, 3), HAIR):
                house = House(discount, idle=idle)
                worth = ratio_of(frac(idle) / (1 - frac(discount)))
                self.assertEqual(seen(house), (0, (), worth, 0, (worth, ZERO, ZERO, ZERO, ZERO, worth)))
        self.assertEqual(seen(House(HALF)), (0, (), ZERO, 0, (ZERO,) * 6))
        self.assertEqual(House(HALF).rest(), ZERO)


class Deeds(ErrorTest):
    def test_enter(self):
        house = House(HALF)
        self.assertEqual([house.enter(COIN, 0), house.enter(COIN, 0), house.enter(FLAT, 0)], [1, 2, 3])
        self.assertEqual(house.places(), ((1, (COIN, 0)), (2, (COIN, 0)), (3, (FLAT, 0))))
        self.assertEqual(house.clock, 0)

    def test_numbers_are_not_given_again(self):
        house = House(HALF)
        self.assertEqual([house.enter(COIN, 0), house.enter(COIN, 1)], [1, 2])
        self.assertIsNone(house.leave(2))
        self.assertEqual(house.enter(FLAT, 0), 3)
        house.leave(1)
        house.leave(3)
        self.assertEqual((house.places(), house.enter(COIN, 1)), ((), 4))

    def test_play_and_rest(self):
        house = House((9, 10), idle=(1, 7))
        house.enter(COIN, 0)
        house.enter(ring(3), 2)
        self.assertEqual([house.play(1, 0), house.play(2, 0), house.rest(), house.play(1, 1), house.play(1, 1)],
                         [ONE, (2, 1), (1, 7), ONE, ZERO])
        self.assertEqual(house.places(), ((1, (COIN, 1)), (2, (ring(3), 0))))
        self.assertEqual(house.clock, 5)

    def test_wrong_states(self):
        for game in KINDS:
            for state in (-1, -2, len(game[0]), len(game[0]) + 1, 10 ** 40) + GREAT_NUMBERS:
                house = House(HALF)
                self.check_refused(house, BadState, lambda told=house: told.enter(game, state), state=state)

    def check_refused(self, house, kind, call, **attributes):
        """The call raises this error and changes nothing."""
        before = seen(house)
        self.check_error(kind, call, **attributes)
        self.assertEqual(seen(house), before)

    def test_unknown_games(self):
        house = House(HALF, idle=(1, 3))
        for number in (-1, 0, 1, 2, 10 ** 40) + GREAT_NUMBERS:
            self.check_refused(house, UnknownGame, lambda: house.leave(number), number=number)
            self.check_refused(house, UnknownGame, lambda: house.play(number, 0), number=number)
        house.enter(COIN, 0)
        house.enter(COIN, 0)
        house.leave(1)
        for number in (0, 1, 3) + GREAT_NUMBERS:
            self.check_refused(house, UnknownGame, lambda: house.leave(number), number=number)
            for target in (0, 1, 2, -1, 10 ** 40, 10 ** 5000):
                self.check_refused(house, UnknownGame, lambda: house.play(number, target), number=number)
        self.assertEqual(house.enter(COIN, 0), 3)

    def test_impossible_outcomes(self):
        house = House(HALF)
        house.enter(ring(3), 1)
        house.enter(COIN, 1)
        for number, target in ((1, 0), (1, 1), (1, 3), (1, -1), (1, 10 ** 40), (2, 0), (2, 2), (2, -1),
                               (1, 10 ** 5000), (2, -10 ** 5000)):
            self.check_refused(house, ImpossibleOutcome, lambda: house.play(number, target))
        self.assertEqual([house.play(1, 2), house.play(2, 1)], [ONE, ZERO])

    def test_the_next_number_after_an_error(self):
        house = House(HALF)
        house.enter(COIN, 0)
        self.check_error(BadState, lambda: house.enter(COIN, 2), state=2)
        self.check_error(UnknownGame, lambda: house.leave(2), number=2)
        self.assertEqual(house.enter(COIN, 0), 2)


class Undo(ErrorTest):
    def test_nothing_to_undo(self):
        house = House(HALF)
        for _ in range(2):
            self.check_error(NothingToUndo, house.undo)
        house.rest()
        self.assertIsNone(house.undo())
        self.check_error(NothingToUndo, house.undo)
        self.check_error(UnknownGame, lambda: house.leave(1), number=1)
        self.check_error(NothingToUndo, house.undo)
        self.assertEqual(house.enter(COIN, 0), 1)

    def test_each_kind_of_deed(self):
        house = House(HALF, idle=(1, 3))
        house.enter(FLAT, 0)
        house.enter(COIN, 0)
        house.enter(ring(3), 1)
        for call in (lambda: house.enter(COIN, 1), lambda: house.leave(2), lambda: house.play(2, 1), house.rest):
            before = seen(house)
            call()
            self.assertNotEqual(seen(house), before)
            self.assertIsNone(house.undo())
            self.assertEqual(seen(house), before)

    def test_numbers_after_an_undone_enter(self):
        house = House(HALF)
        house.enter(COIN, 0)
        self.assertEqual(house.enter(COIN, 1), 2)
        house.undo()
        self.assertEqual(house.places(), ((1, (COIN, 0)),))
        self.assertEqual(house.enter(FLAT, 0), 2)
        house.leave(2)
        house.undo()
        self.assertEqual(house.places(), ((1, (COIN, 0)), (2, (FLAT, 0))))
        self.assertEqual(house.enter(FLAT, 0), 3)
        for _ in range(3):
            house.undo()
        self.assertEqual((house.places(), house.enter(FLAT, 0)), ((), 1))

    def test_a_place_that_left_comes_back_by_its_number(self):
        house = House(HALF)
        for state in (0, 1, 2):
            house.enter(ring(3), state)
        house.play(2, 2)
        house.leave(2)
        house.enter(COIN, 0)
        house.undo()
        house.undo()
        self.assertEqual(house.places(), ((1, (ring(3), 0)), (2, (ring(3), 2)), (3, (ring(3), 2))))

    def test_an_undo_is_not_undone(self):
        house = House(HALF)
        house.enter(COIN, 0)
        house.play(1, 0)
        house.play(1, 1)
        house.undo()
        house.undo()
        self.assertEqual((house.clock, house.places()), (0, ((1, (COIN, 0)),)))
        self.assertEqual(house.rest(), ZERO)
        house.undo()
        self.assertEqual((house.clock, house.places()), (0, ((1, (COIN, 0)),)))


class Advice(ErrorTest):
    def test_index_against_the_idle_game(self):
        # In state 0 the coin has the index 2, the worth of the idle reward 1.
        for idle, number in ((ONE, 1), (ratio_of(1 - frac(HAIR)), 1), (ratio_of(1 + frac(HAIR)), 0), ((-5, 1), 1),
                             ((5, 1), 0)):
            house = House(HALF, idle=idle)
            house.enter(COIN, 0)
            self.assertEqual(house.advice(), number)

    def test_equal_indexes(self):
        house = House(HALF, idle=ONE)
        house.enter(COIN, 1)
        for _ in range(3):
            house.enter(COIN, 0)
        house.enter(steady(ONE), 0)
        self.assertEqual(house.advice(), 2)
        house.leave(2)
        self.assertEqual(house.advice(), 3)
        house.play(3, 1)
        self.assertEqual(house.advice(), 4)
        house.play(4, 1)
        self.assertEqual(house.advice(), 5)
        house.leave(5)
        self.assertEqual(house.advice(), 0)

    def test_below_zero(self):
        house = House(HALF)
        self.assertEqual(house.advice(), 0)
        house.enter(steady((-1, 10 ** 30)), 0)
        self.assertEqual(house.advice(), 0)
        house.enter(COIN, 1)
        self.assertEqual(house.advice(), 2)


class Ledger(ErrorTest):
    def test_told(self):
        house = House(HALF, idle=(1, 3))
        house.enter(COIN, 0)
        house.enter(COIN, 1)
        # The curve of the coin goes from (0, 4/3) to (2, 2); the idle game is worth 2/3.
        self.assertEqual(house.ledger(), ((2, 3), (8, 9), ZERO, ZERO, ZERO, (14, 9)))
        house.play(1, 1)
        # The expected best gain after the move was half of 14/9 and of 2/3.
        self.assertEqual(house.ledger(), ((2, 3), (8, 9), ONE, ZERO, (-2, 9), (1, 3)))
        house.play(2, 1)
        # A play of a coin that pays nothing any more costs a third.
        self.assertEqual(house.ledger(), ((2, 3), (8, 9), ONE, (1, 6), (-2, 9), (1, 6)))
        house.rest()
        self.assertEqual(house.ledger(), ((2, 3), (8, 9), (13, 12), (1, 6), (-2, 9), (1, 12)))
        house.leave(1)
        self.assertEqual(house.ledger(), ((2, 3), (8, 9), (13, 12), (1, 6), (-2, 9), (1, 12)))

    def test_by_value_tables(self):
        for discount in ((1, 3), (9, 10)):
            inside = (COIN, ring(3), steady((1, 5)))
            found = joint_states(inside)
            table = {states: frac(gain) for states, gain in zip(found, value_table(inside, discount))}
            b = frac(discount)
            house = House(discount, idle=(1, 5))
            house.enter(COIN, 0)
            house.enter(ring(3), 0)
            changed = table[(0, 0, 0)] - Fraction(1, 5) / (1 - b)
            states = (0, 0, 0)
            earned = lost = luck = Fraction(0)
            for clock, (number, target) in enumerate(((2, 1), (1, 0), (0, 0), (2, 2), (1, 1), (1, 1), (2, 0), (0, 0))):
                position = (number or 3) - 1
                row = inside[position][1][states[position]]
                after = {told: states[:position] + (told,) + states[position + 1:] for told, _ in row}
                hope = sum(frac(part) * table[after[told]] for told, part in row)
                reward = frac(inside[position][0][states[position]])
                paid = house.play(number, target) if number else house.rest()
                self.assertEqual(frac(paid), reward)
                earned += b ** clock * reward
                lost += b ** clock * (table[states] - reward - b * hope)
                luck += b ** clock * b * (table[after[target]] - hope)
                states = after[target]
                ahead = b ** (clock + 1) * table[states]
                told = (Fraction(1, 5) / (1 - b), changed, earned, lost, luck, ahead)
                self.assertEqual(house.ledger(), tuple(map(ratio_of, told)))

    def test_rest_beside_better_games(self):
        house = House(HALF)
        house.enter(steady(ONE), 0)
        house.rest()
        self.assertEqual(house.ledger(), (ZERO, (2, 1), ZERO, ONE, ZERO, ONE))
        house.play(1, 0)
        self.assertEqual(house.ledger(), (ZERO, (2, 1), HALF, ONE, ZERO, HALF))
        house.leave(1)
        self.assertEqual(house.ledger(), (ZERO, (3, 2), HALF, ONE, ZERO, ZERO))

    def test_undone_deeds_do_not_count(self):
        house, other = House((9, 10), idle=(1, 9)), House((9, 10), idle=(1, 9))
        for one in (house, other):
            one.enter(COIN, 0)
            one.play(1, 0)
        wanted = other.ledger()
        for asked in (True, False):
            house.enter(ring(3), 2)
            house.play(2, 0)
            house.rest()
            house.leave(1)
            if asked:
                house.ledger()
            for _ in range(4):
                house.undo()
            self.assertEqual(house.ledger(), wanted)
        house.play(1, 1)
        other.play(1, 1)
        self.assertEqual(house.ledger(), other.ledger())


class Perform(ErrorTest):
    ROW = [("enter", COIN, 0), ("play", 1, 0), ("rest",), ("enter", FLAT, 0), ("play", 2, 0), ("leave", 1)]
    GREAT_DEEDS = tuple(deed for great in (10 ** 5000, -10 ** 5000) for deed in (
        ("enter", COIN, great), ("leave", great), ("play", great, 0), ("play", 2, great)))

    def test_results(self):
        for row in (self.ROW, tuple(self.ROW)):
            house = House(HALF, idle=(1, 3))
            results = house.perform(row)
            self.assertIs(type(results), tuple)
            self.assertEqual(results, (1, ONE, (1, 3), 2, HALF, None))
            self.assertEqual((house.clock, house.places()), (3, ((2, (FLAT, 0)),)))

    def test_empty_row(self):
        house = House(HALF)
        house.enter(COIN, 0)
        before = seen(house)
        self.assertEqual((house.perform([]), house.perform(())), ((), ()))
        self.assertEqual(seen(house), before)
        house.undo()
        self.check_error(NothingToUndo, house.undo)

    def test_each_deed_is_undone_on_its_own(self):
        house, other = House(HALF, idle=(1, 3)), House(HALF, idle=(1, 3))
        house.perform(self.ROW)
        told = [seen(other)]
        for deed in self.ROW:
            done(other, deed)
            told.append(seen(other))
        for wanted in reversed(told):
            self.assertEqual(seen(house), wanted)
            if wanted != told[0]:
                house.undo()
        self.check_error(NothingToUndo, house.undo)

    def test_bad_deeds(self):
        for bad in (("enter", COIN, 2), ("enter", COIN, -1), ("leave", 7), ("leave", 0), ("play", 7, 0),
                    ("play", 0, 0), ("play", 2, 1)) + self.GREAT_DEEDS:
            for at in (4, 5):
                for many in (0, 2):
                    house = House(HALF, idle=(1, 3))
                    house.perform([("rest",)] * many)
                    before = seen(house)
                    row = self.ROW[:at] + [bad] + self.ROW[at:] + [("leave", 99)]
                    self.check_error(BadDeed, lambda: house.perform(row), position=at)
                    self.assertEqual(seen(house), before)
                    for _ in range(many):
                        house.undo()
                    self.check_error(NothingToUndo, house.undo)
                    self.assertEqual(house.enter(COIN, 0), 1)

    def test_the_first_and_the_last_deed(self):
        house = House(HALF)
        self.check_error(BadDeed, lambda: house.perform([("leave", 1)]), position=0)
        self.check_error(BadDeed, lambda: house.perform((("play", 1, 0), ("rest",))), position=0)
        self.check_error(BadDeed, lambda: house.perform(self.ROW + [("leave", 1)]), position=6)
        # What an earlier deed of the row did counts for the later ones.
        self.check_error(BadDeed, lambda: house.perform([("enter", ring(3), 0), ("play", 1, 1), ("play", 1, 1)]),
                         position=2)
        self.assertEqual(house.perform([("enter", ring(3), 0), ("play", 1, 1), ("play", 1, 2)]), (1, ZERO, ONE))

    def test_the_row_stays_as_it_is(self):
        house = House(HALF, idle=(1, 3))
        row = copy.deepcopy(self.ROW)
        house.perform(row)
        self.assertEqual(row, self.ROW)
        before = seen(house)
        row[1] = ("rest",)
        row.clear()
        self.assertEqual(seen(house), before)
        house.undo()
        self.assertEqual(house.places(), ((1, (COIN, 0)), (2, (FLAT, 0))))
        row = [("rest",), ("leave", 99)]
        self.check_error(BadDeed, lambda: house.perform(row), position=1)
        self.assertEqual(row, [("rest",), ("leave", 99)])


class RandomHouses(ErrorTest):
    def wander(self, seed, discount, idle, steps):
        """Deeds, undos, rows and errors by chance; after each the house and the diary tell the same."""
        rng = random.Random(seed)
        house, diary = House(discount, idle=idle), Diary(discount, idle)
        for _ in range(steps):
            act = rng.randrange(10)
            if act < 6:
                deed, row, result = random_deed(rng, diary)
                self.assertEqual(done(house, deed), result)
                diary.rows.append(row)
            elif act < 8:
                if diary.rows:
                    house.undo()
                    diary.rows.pop()
                else:
                    self.check_error(NothingToUndo, house.undo)
            else:
                self.perform_row(rng, house, diary, act == 9)
            self.check_same(house, diary)

    def perform_row(self, rng, house, diary, fails):
        kept = list(diary.rows)
        deeds, results = [], []
        for _ in range(rng.randrange(4)):
            deed, row, result = random_deed(rng, diary)
            deeds.append(deed)
            results.append(result)
            diary.rows.append(row)
        if fails:
            position = len(deeds)
            deeds += [("play", diary.next_number(), 0), ("rest",)]
            diary.rows = kept
            self.check_error(BadDeed, lambda: house.perform(deeds), position=position)
        else:
            self.assertEqual(house.perform(tuple(deeds)), tuple(results))

    def check_same(self, house, diary):
        found = seen(house)
        self.assertEqual(found, diary.seen())
        clock, places, gain, advice, ledger = found
        self.assertIs(type(clock), int)
        self.assertIs(type(advice), int)
        self.assertTrue(is_frozen(places) and is_frozen(ledger) and is_proper(gain))
        self.assertTrue(all(map(is_proper, ledger)))
        opened, changed, earned, lost, luck, ahead = map(frac, ledger)
        self.assertEqual(opened + changed + luck, earned + lost + ahead)
        self.assertGreaterEqual(lost, 0)

    def test_against_the_diary(self):
        for seed, discount in enumerate((ZERO, (1, 3), HALF, (9, 10), (10 ** 30 - 1, 10 ** 30))):
            for idle in (ZERO, (3, 2)):
                self.wander(seed, discount, idle, 40)

    def test_many_deeds(self):
        rng = random.Random(5)
        house, diary = House((9, 10)), Diary((9, 10), ZERO)
        for _ in range(80):
            deed, row, _ = random_deed(rng, diary)
            done(house, deed)
            diary.rows.append(row)
            opened, changed, earned, lost, luck, ahead = map(frac, house.ledger())
            self.assertEqual(opened + changed + luck, earned + lost + ahead)
        self.check_same(house, diary)
        for _ in range(80):
            house.undo()
        self.assertEqual(seen(house), seen(House((9, 10))))

    def test_eight_games(self):
        house, diary = House((9, 10), idle=(1, 2)), Diary((9, 10), (1, 2))
        for number in range(1, 9):
            place = (KINDS[number % len(KINDS)], 0)
            self.assertEqual(house.enter(*place), number)
            diary.rows.append(("enter", number, place))
        self.check_same(house, diary)
        rng = random.Random(6)
        for _ in range(3):
            number = rng.randrange(1, 9)
            game, state = diary.inside()[number]
            target = game[1][state][0][0]
            self.assertEqual(house.play(number, target), game[0][state])
            diary.rows.append(("play", number, (game, target)))
        self.check_same(house, diary)

    def test_two_houses(self):
        house, other = House(HALF, idle=(1, 3)), House(HALF, idle=(1, 3))
        before = seen(other)
        house.perform(Perform.ROW)
        self.assertEqual(seen(other), before)
        self.check_error(NothingToUndo, other.undo)
        self.assertEqual(other.enter(COIN, 1), 1)
        wanted = seen(house)
        other.play(1, 1)
        other.undo()
        other.leave(1)
        self.assertEqual(seen(house), wanted)

    def test_asking_changes_nothing(self):
        house, other = House((9, 10)), House((9, 10))
        for deed in Perform.ROW:
            done(house, deed)
            done(other, deed)
            for _ in range(2):
                seen(house)
        self.assertEqual(seen(house), seen(other))


if __name__ == "__main__":
    unittest.main()
