"""accounts.py: [22]. Each PLAY is added up step by step by a second reading (tests/events.py)."""

import unittest
from fractions import Fraction

from ringkiln.accounts import (air_gains, bricks_account, burnt_row, drawn_by_place, flue_by_place, good_share,
                               heat_account, is_account, kinds_that_fire, least_pieces, slag_made, soft_drawn)
from tests.events import ticks_of, yard_rules, yard_works
from tests.support import NOUGHTS, Numbers, answer, kept, listed, raised, some_pile, some_told, strictly
from tests.test_back import part, some_play, works_of

ALL = (heat_account, flue_by_place, burnt_row, air_gains, bricks_account, drawn_by_place, good_share, slag_made,
       soft_drawn)
BRICK = (6, 1, 20)
LANE = (((BRICK,), 0, 6, 5, 100, 0), ((None, 0, 0, (), True, False, False), (None, 12, 0, (10,), False, False, False),
                                      (((0, 5, 0),), 0, 0, (), False, True, True)), NOUGHTS)


def yard_play(seed):
    """A PLAY in which bricks are set, drawn, cleared and melted, with told DEEDS of which many cannot be done."""
    works = yard_works(seed)
    numbers = Numbers(seed * 3 + 4)
    many = 1 + numbers.below(8)
    chamber = numbers.below(len(works[1]))
    more = tuple((tick, deed) for tick, deed in ((1, ("open", chamber)), (2, ("draw", chamber)), (3, ("clear", chamber)),
                                                 (3, ("set", chamber, ((0, 6), (0, 2))))) if numbers.below(2))
    told = tuple(sorted(more + some_told(seed, works, many), key=lambda pair: pair[0]))
    return works, yard_rules(seed, works[0]), told, many


def plays(many):
    for seed in range(many):
        yield yard_play(seed) if seed % 3 else some_play(seed)


def counted(rows):
    """For each CHAMBER the sum of what the pairs (number, more) tell."""
    sums = {}
    for number, more in rows:
        sums[number] = sums.get(number, 0) + more
    return sums


class Heat(unittest.TestCase):
    def test_against_the_second_reading(self):
        moved = {"wood": 0, "burnt": 0, "taken": 0, "earthed": 0}
        for play in plays(600):
            ticks = ticks_of(play)
            wood = counted((deed[1], deed[2]) for tick in ticks for deed, _ in tick["deeds"] if deed[0] == "wood")
            burnt = counted(row for tick in ticks for row in tick["burnt"])
            brought = counted((row[0], row[1]) for tick in ticks for row in tick["air"])
            taken = counted((row[0], row[2]) for tick in ticks for row in tick["air"])
            earthed = counted(row for tick in ticks for row in tick["earth"])
            expected = tuple((chamber[1],) + tuple(own.get(number, 0) for own in (burnt, wood, brought, taken, earthed))
                             + (ticks[-1]["works"][1][number][1],) for number, chamber in enumerate(play[0][1]))
            self.assertTrue(strictly(heat_account(play), expected))
            flue = counted((row[0], row[2]) for tick in ticks for row in tick["air"] if row[5])
            self.assertTrue(strictly(flue_by_place(play), tuple(flue.get(k, 0) for k in range(len(play[0][1])))))
            self.assertTrue(strictly(burnt_row(play), tuple(sum(row[1] for row in tick["burnt"]) for tick in ticks)))
            gains = counted((row[0], max(0, row[3])) for tick in ticks for row in tick["air"] if row[4])
            self.assertTrue(strictly(air_gains(play), tuple(gains.get(k, 0) for k in range(len(play[0][1])))))
            for word, own in (("wood", wood), ("burnt", burnt), ("taken", taken), ("earthed", earthed)):
                moved[word] += any(own.values())
        self.assertGreater(min(moved.values()), 60)

    def test_guarantees(self):
        for play in plays(250):
            rows = heat_account(play)
            last = ticks_of(play)[-1]["works"][2]
            for first, burnt, wood, brought, taken, earthed, behind in rows:
                self.assertEqual(first + burnt + wood + brought, taken + earthed + behind)
            for place, more in ((1, sum(row[4] - row[3] for row in rows)), (1, sum(flue_by_place(play))),
                                (2, sum(row[5] for row in rows)), (3, sum(row[1] + row[2] for row in rows)),
                                (3, sum(burnt_row(play)) + sum(row[2] for row in rows))):
                self.assertEqual(last[place] - play[0][2][place], more)

    def test_two_draughts_and_a_still_corner(self):
        works = works_of(part(20, (), "w"), part(16, (9, 9)), part(0, (), "d"), part(7), part(31, (5,), "wd"),
                         make=(((20, 3, 90),), 0, 4, 4, 900, 4))
        # 20 is 10 and 10, 26 is 13 and 13, 13 is 7 and 6; 31 is 16 and 15; then 9 and 5 are burnt, the earth has its share.
        self.assertEqual(heat_account((works, (), (), 1)),
                         ((20, 0, 0, 0, 10, 2, 8), (16, 9, 0, 10, 13, 5, 17), (0, 0, 0, 13, 6, 1, 6), (7, 0, 0, 0, 0, 1, 6),
                          (31, 5, 0, 0, 15, 5, 16)))
        self.assertEqual(flue_by_place((works, (), (), 1)), (0, 0, 6, 0, 15))
        self.assertEqual(burnt_row((works, (), (), 2)), (14, 9))

    def test_nothing_happens(self):
        works = works_of(part(3), part(), part())
        self.assertEqual(heat_account((works, (), (), 5)), ((3, 0, 0, 0, 0, 0, 3),) + ((0,) * 7,) * 2)
        self.assertEqual(burnt_row((works, (), (), 5)), (0,) * 5)
        self.assertEqual(flue_by_place((works, (), (), 5)), (0,) * 3)
        self.assertEqual(bricks_account((works, (), (), 5)), ((0,) * 6,))
        self.assertEqual(drawn_by_place((works, (), (), 5)), ((0,) * 3,) * 3)
        self.assertIsNone(good_share((works, (), (), 5)))
        self.assertEqual((slag_made((works, (), (), 5)), soft_drawn((works, (), (), 5))), ((), ()))

    def test_a_fire_of_all_and_a_works_that_is_out(self):
        rules = ((0, (), ("wood", 5)), (1, (), ("coal", (3,))), (1, (("set",),), ("draw",)))
        for heat in (9, 3):
            works = works_of(part(heat, (4,), "wd", ((0, 3, 0),)), part(heat), part(heat))
            play = (works, rules, (), 1)
            self.assertEqual(heat_account(play)[1:], ((heat, 0, 0, 0, 0, 0, heat),) * 2)
            self.assertEqual(burnt_row(play), (4,) if heat == 9 else (0,))
            self.assertEqual((good_share(play), drawn_by_place(play)), (None, ((0, 0, 0),) * 3))

    def test_gains_do_not_count_losses_nor_other_loads(self):
        # Behind tick 1 the SET has 3 more, behind tick 2 again, then it loses one, then one more.
        self.assertEqual([air_gains((LANE, (), (), many))[2] for many in (1, 2, 3, 4)], [3, 6, 6, 6])
        for load in (None, 5):
            works = LANE[:1] + (LANE[1][:2] + ((load,) + LANE[1][2][1:],),) + LANE[2:]
            self.assertEqual(air_gains((works, (), (), 4)), (0, 0, 0))
        # Set by a DEED of the tick itself: it has a SET when air comes.
        works = LANE[:1] + (LANE[1][:2] + ((None, 0, 0, (), True, True, True),),) + LANE[2:]
        told = ((1, ("set", 2, ((0, 5),))), (1, ("brick", 2)))
        self.assertEqual(air_gains((works, (), told, 2)), (0, 0, 6))

    def test_wood_is_no_coal(self):
        works = works_of(part(5, (7,), "wd"), part(), part())
        self.assertEqual(burnt_row((works, (), ((1, ("wood", 0, 9)),), 2)), (7, 0))
        self.assertEqual(heat_account((works, (), ((1, ("wood", 0, 9)),), 1))[0], (5, 7, 9, 0, 7, 0, 14))


class Bricks(unittest.TestCase):
    def test_against_the_second_reading(self):
        seen = {"set": 0, "good": 0, "soft": 0, "slag": 0, "broken": 0, "share": 0}
        for play in plays(700):
            works = play[0]
            kinds = works[0][0]
            ticks = ticks_of(play)
            rows = [[0] * 6 for _ in kinds]
            places = [[0] * 3 for _ in works[1]]
            soft = set()
            for place, state in ((0, works), (5, ticks[-1]["works"])):
                for chamber in state[1]:
                    if isinstance(chamber[0], tuple):
                        for kind, count, _ in chamber[0]:
                            rows[kind][place] += count
            for number, tick in enumerate(ticks):
                for deed, before in tick["deeds"]:
                    if deed[0] == "set":
                        for kind, count in deed[2]:
                            rows[kind][1] += count
                    if deed[0] == "clear":
                        places[deed[1]][2] += before["load"]
                    if deed[0] == "draw":
                        for kind, count, stood in before["load"]:
                            is_soft = stood < kinds[kind][1]
                            rows[kind][2 + is_soft] += count
                            places[deed[1]][is_soft] += count
                            soft |= {(number + 1, deed[1])} if is_soft else set()
                for _, load in tick["melted"]:
                    for kind, count, _ in load:
                        rows[kind][4] += count
            self.assertTrue(strictly(bricks_account(play), tuple(tuple(row) for row in rows)))
            self.assertTrue(strictly(drawn_by_place(play), tuple(tuple(row) for row in places)))
            self.assertTrue(strictly(soft_drawn(play), tuple(sorted(soft))))
            slag = tuple((number + 1, own) for number, tick in enumerate(ticks) for own, _ in tick["melted"])
            self.assertTrue(strictly(slag_made(play), slag))
            good, every = sum(row[0] for row in places), sum(sum(row) for row in places)
            share = None
            if every:
                own = Fraction(good, every)
                share = own.numerator, own.denominator
            self.assertTrue(strictly(good_share(play), share))
            for place, word in ((1, "set"), (2, "good"), (3, "soft"), (4, "slag")):
                seen[word] += any(row[place] for row in rows)
            seen["broken"] += any(row[2] for row in places)
            seen["share"] += share is not None and share[1] > 1
        self.assertGreater(min(seen.values()), 25, seen)

    def test_guarantees(self):
        for play in plays(300):
            for first, laid, good, soft, slag, left in bricks_account(play):
                self.assertEqual(first + laid, good + soft + slag + left)
            last = ticks_of(play)[-1]["works"][2]
            gained = tuple(last[place] - play[0][2][place] for place in (4, 5, 6))
            self.assertEqual(gained, tuple(map(sum, zip(*drawn_by_place(play)))))
            self.assertEqual(gained[:2], tuple(sum(row[place] for row in bricks_account(play)) for place in (2, 3)))

    def test_the_ledger_at_first_counts_for_nothing(self):
        for play in plays(120):
            works, rules, told, many = play
            other = (works[:2] + ((9, 8, 7, 6, 5, 4, 3),), rules, told, many)
            for function in ALL:
                self.assertEqual(function(other), function((works[:2] + (NOUGHTS,), rules, told, many)))

    def test_shares(self):
        works = works_of(part(0, (), "w", ((0, 4, 3), (0, 2, 1))), part(0, (), "w", 6), part(0, (), "w", ((0, 9, 9),)))
        draws = ((1, ("draw", 0)), (2, ("clear", 1)), (3, ("draw", 2)))
        self.assertEqual([good_share((works, (), draws, many)) for many in (1, 2, 3)], [(2, 3), (1, 3), (13, 21)])
        self.assertEqual(good_share((works, (), draws[1:2], 2)), (0, 1))
        self.assertEqual(good_share((works, (), draws[2:], 3)), (1, 1))
        self.assertEqual(drawn_by_place((works, (), draws, 3)), ((4, 2, 0), (0, 0, 6), (9, 0, 0)))
        self.assertEqual(bricks_account((works, (), draws, 3)), ((15, 0, 13, 2, 0, 0),))
        self.assertEqual(soft_drawn((works, (), draws, 3)), ((1, 0),))

    def test_soft_twice_in_one_tick_is_one_pair(self):
        works = works_of(part(0, (), "w", ((0, 4, 0),)), part(), part())
        told = ((1, ("draw", 0)), (1, ("set", 0, ((0, 5),))), (1, ("draw", 0)))
        self.assertEqual(soft_drawn((works, (), told, 1)), ((1, 0),))
        self.assertEqual(drawn_by_place((works, (), told, 1))[0], (0, 9, 0))
        self.assertEqual(bricks_account((works, (), told, 1)), ((4, 5, 0, 9, 0, 0),))

    def test_told_deeds_that_cannot_be_done_are_passed_over(self):
        works = works_of(part(0, (), "", ((0, 4, 9),)), part(9, (), "w", ((0, 5, 9),)), part())
        told = ((1, ("draw", 0)), (1, ("draw", 1)), (1, ("draw", 2)), (1, ("clear", 0)), (1, ("draw", 7)), (1, ("wood", 9, 9)),
                (1, ("set", 2, ((0, 5),))), (1, ("set", 2, ((4, 5),))), (1, ("wood", 2, 0)), (1, ("coal", 2, ())))
        for function in ALL:
            self.assertEqual(function((works, (), told, 3)), function((works, (), (), 3)))

    def test_what_melts(self):
        works = works_of(part(95, (), "", ((0, 4, 0), (0, 6, 2))), part(91, (), "", 5), part(90, (), "", ((0, 3, 0),)))
        self.assertEqual(slag_made((works, (), (), 3)), ((1, 0),))
        self.assertEqual(bricks_account((works, (), (), 3)), ((13, 0, 0, 0, 10, 3),))


class Fires(unittest.TestCase):
    def test_against_the_second_reading(self):
        found = [0, 0]
        for play in plays(400):
            rows = [tick["works"] for tick in ticks_of(play)]
            for number in range(len(play[0][1])):
                heats = [row[1][number][1] for row in rows]
                expected = tuple(kind for kind, (mark, stay, melt) in enumerate(play[0][0][0])
                                 if sum(heat >= mark for heat in heats) >= stay and not any(heat > melt for heat in heats))
                self.assertTrue(strictly(kinds_that_fire(play, number), expected))
                found[expected != ()] += 1
        self.assertGreater(min(found), 100)

    def test_edges(self):
        # Heat 50 stays: mark and melt themselves are enough, so many ticks as stay.
        kinds = ((50, 3, 50), (51, 1, 90), (1, 3, 49), (40, 4, 60))
        works = works_of(part(50), part(), part(), make=(kinds, 9, 60, 4, 99, 0))
        self.assertEqual([kinds_that_fire((works, (), (), many), 0) for many in (2, 3, 4)], [(), (0,), (0, 3)])
        # What it is as the run begins counts for neither: 80 is 40 behind tick 1.
        works = works_of(part(80, (), "wd"), part(), part(), make=(((40, 1, 50), (80, 1, 80), (20, 2, 40)), 0, 90, 4, 99, 0))
        self.assertEqual([kinds_that_fire((works, (), (), many), 0) for many in (1, 2)], [(0,), (0, 2)])


class Pieces(unittest.TestCase):
    def plain(self, play, number, strength, kind, good):
        works = play[0]
        for pieces in range(13):
            chamber = works[1][number]
            coal = tuple(sorted(chamber[3] + (strength,) * pieces))
            ring = works[1][:number] + (chamber[:3] + (coal,) + chamber[4:],) + works[1][number + 1:]
            drawn = sum(count for tick in ticks_of(((works[0], ring, works[2]),) + play[1:]) for deed, before in tick["deeds"]
                        if deed[0] == "draw" for own, count, stood in before["load"]
                        if own == kind and stood >= works[0][0][kind][1])
            if drawn >= good:
                return pieces
        return None

    def oven_play(self, seed):
        """A PLAY in which CHAMBER 0 is drawn at some tick, good if its coal lasts."""
        numbers = Numbers(seed * 7 + 2)
        make = (((7 + numbers.below(6), 1 + numbers.below(6), 15 + numbers.below(20)),), 0, 4, 8 + numbers.below(20), 99, 0)
        ware = ((0, 1 + numbers.below(3), 0), (0, 1 + numbers.below(5), numbers.below(3)))
        hot = (ware, 4 + numbers.below(8), 9, some_pile(numbers, 1), True, True, True)
        cold = (None, 0, 0, (), False, False, True)
        many = 3 + numbers.below(12)
        return (make, (hot, cold, cold), NOUGHTS), (), ((many, ("draw", 0)),), many

    def test_against_all_numbers_of_pieces(self):
        found = {}
        for seed in range(150):
            play = yard_play(seed) if seed % 3 == 0 else self.oven_play(seed)
            numbers = Numbers(seed)
            number, kind = (numbers.below(len(play[0][1])), numbers.below(len(play[0][0][0]))) if seed % 3 == 0 else (0, 0)
            for good in (0, 1, 5):
                strength = 1 + numbers.below(12)
                expected = self.plain(play, number, strength, kind, good)
                self.assertTrue(strictly(least_pieces(play, number, strength, kind, good), expected))
                found[expected] = found.get(expected, 0) + 1
        self.assertGreater(found[None], 20)
        self.assertGreater(sum(many for pieces, many in found.items() if pieces), 25)
        self.assertGreater(len(found), 5)

    def test_none_and_twelve(self):
        # 8 is 4 behind the air, 12 with a piece of 8; then 6 and 14, 7 and 15, 8 and 16, and so on with each piece; then 8.
        make = (((8, 12, 90),), 0, 4, 4, 99, 0)
        ring = ((((0, 5, 0),), 8, 8, (), True, True, True), (None, 0, 0, (), False, False, True),
                (None, 0, 0, (), False, False, True))
        play = ((make, ring, NOUGHTS), (), ((17, ("draw", 0)),), 17)
        self.assertEqual(least_pieces(play, 0, 8, 0, 1), self.plain(play, 0, 8, 0, 1))
        self.assertEqual(least_pieces(play, 0, 8, 0, 0), 0)
        self.assertIsNone(least_pieces(play, 0, 8, 0, 6))
        self.assertIsNone(least_pieces(play, 1, 8, 0, 5))
        many = {stay: least_pieces((((((8, stay, 90),),) + make[1:], ring, NOUGHTS), (), ((17, ("draw", 0)),), 17), 0, 8, 0, 5)
                for stay in range(1, 16)}
        self.assertEqual([many[stay] for stay in (1, 12, 13, 14, 15)], [1, 11, 12, None, None])

    def test_more_need_not_be_better(self):
        ring = ((((0, 5, 0),), 8, 8, (), True, True, True), (None, 0, 0, (), False, False, True),
                (None, 0, 0, (), False, False, True))
        # 8 is 4 behind the air; what is less than 20 is soft, what is more than 30 melts.
        make = (((20, 1, 30),), 0, 4, 40, 99, 0)
        play = ((make, ring, NOUGHTS), (), ((2, ("draw", 0)),), 2)
        self.assertEqual([least_pieces(play, 0, strength, 0, 5) for strength in (15, 16, 26, 27)], [None, 1, 1, None])

    def test_errors_in_order(self):
        play = (LANE, (), (), 2)
        for number in (-1, 3, 99):
            self.assertEqual(answer(kinds_that_fire, play, number), raised("NoChamber", number))
            for kind in (-1, 0, 1):
                self.assertEqual(answer(least_pieces, play, number, 5, kind, 0), raised("NoChamber", number))
        for kind in (-1, 1, 9):
            self.assertEqual(answer(least_pieces, play, 2, 5, kind, 0), raised("NoKind", kind))
        self.assertEqual(least_pieces(play, 2, 5, 0, 0), 0)


class Judge(unittest.TestCase):
    def test_things(self):
        for play in plays(60):
            own = heat_account(play)
            self.assertIs(is_account(play, own), True)
            bent = tuple(tuple(number + (place == 6) for place, number in enumerate(row)) for row in own)
            for thing in (bent, own[1:], own + own[:1], list(own), (list(own[0]),) + own[1:], None, 0, True, "", (),
                          tuple(row[:6] for row in own), tuple(row + (0,) for row in own),
                          tuple(tuple(map(str, row)) for row in own)):
                self.assertIs(is_account(play, thing), False, thing)
        ring = works_of(part(1), part(), part())
        self.assertIs(is_account((ring, (), (), 1), ((1, 0, 0, 0, 0, 0, 1),) + ((0,) * 7,) * 2), True)
        self.assertIs(is_account((ring, (), (), 1), ((True, 0, 0, 0, 0, 0, 1),) + ((0,) * 7,) * 2), False)
        self.assertIs(is_account((ring, (), (), 1), ((1, False, 0, 0, 0, 0, 1),) + ((0,) * 7,) * 2), False)

    def test_lists_and_what_is_handed_in(self):
        for play in plays(40):
            for function in ALL:
                own = listed(play)
                before = kept(own)
                self.assertTrue(strictly(function(own), function(play)))
                self.assertEqual(own, before)


if __name__ == "__main__":
    unittest.main()
