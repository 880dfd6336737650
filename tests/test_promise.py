"""Part 3 of the document, with [1] to [3]: what holds over the whole program."""

import unittest
from fractions import Fraction
from itertools import product

from poolsmeet.desk import Desk
from poolsmeet.errors import PoolError
from poolsmeet.grounds import Ground, Ring, Trough, attempt, within
from poolsmeet.layouts import berths, groups, layout, layout_holds, pushes, settle, shifts, work
from poolsmeet.plans import least_volume, room_at
from poolsmeet.pools import Pool
from poolsmeet.rains import Rain
from poolsmeet.ratios import Ratio
from poolsmeet.steady import joined_from, runnings, wet_from
from poolsmeet.waters import Water
from support import TINY, Case, fractions, mixed, ratio, some_pairs

BAGS = [fractions(bag) for bag in [
    [(5, 3)], [(0, 2), (3, 2), (4, 1)], [(0, 2), (1, 2), (9, 1)], [(4, 3), (4, 1), (4, 2), (4, 1)],
    [(-4, 1), (-3, 5), (0, Fraction(1, 2)), (3, 5), (4, 1)], [(3 * at, 2) for at in range(6)],
]]
BAGS += [some_pairs(many, many + width, width) for many in (7, 15) for width in (12, 80)]
LIMITS = [
    [(Fraction(7 * at * at, 1000 - at), Fraction(at + 1, 999 - 3 * at)) for at in range(40)],
    [(Fraction((-1) ** at * (10 ** 9 - at), 1 + at % 7), Fraction(10 ** 9 - at, 1000 - at)) for at in range(40)],
    [(Fraction(10 ** 9 - at * at), Fraction(1)) for at in range(40)],
]


def rain(bag):
    return Rain([(ratio(spot), ratio(volume)) for spot, volume in bag])


def turned_over(stretches):
    return tuple((-right, -left) for left, right in reversed(stretches))


def moved(stretches, way):
    return tuple((left + way, right + way) for left, right in stretches)


class Symmetries(Case):
    def test_mirrored_rains(self):
        for bag in BAGS + LIMITS:
            made, last = rain(bag), len(bag) - 1
            self.assertEqual((-made)(1), -(made(1)))
            self.assertEqual(groups(-made), tuple((last - two, last - one) for one, two in reversed(groups(made))))
            self.assertEqual(work(-made), work(made))
            for spot in (0, Ratio(7, 2), 100):
                time, one, two = wet_from(made, spot)
                self.assertEqual(wet_from(-made, -spot), (time, last - two, last - one))
                self.assertEqual(least_volume(-made, -spot, last, 0), least_volume(made, spot, 0, last))
                self.assertEqual(room_at(-(made(1)), -spot), room_at(made(1), spot))
            self.assertEqual(joined_from(-made, 0, last), joined_from(made, 0, last))

    def test_moved_rains(self):
        for bag, way in product(BAGS + LIMITS, (3, Ratio(-22, 7))):
            made, last = rain(bag), len(bag) - 1
            self.assertEqual((made >> way)(1), made(1) >> way)
            self.assertEqual((made << way)(1), made(1) << way)
            self.assertEqual([shifts(made >> way), pushes(made >> way), work(made >> way), groups(made >> way)],
                             [shifts(made), pushes(made), work(made), groups(made)])
            self.assertEqual(berths(made >> way), moved(berths(made), way))
            self.assertEqual(list(runnings(made >> way)), list(runnings(made)))
            self.assertEqual(wet_from(made >> way, 5 + way), wet_from(made, 5))
            self.assertEqual(least_volume(made >> way, 5 + way, 0, last), least_volume(made, 5, 0, last))
            self.assertEqual(room_at(made(1) >> way, 5 + way), room_at(made(1), 5))

    def test_multiplied_rains(self):
        for bag, factor in product(BAGS, (2, Ratio(3, 7))):
            made = rain(bag)
            self.assertEqual((made * factor)(1), made(factor))
            self.assertEqual((factor * made)(5), made(factor * 5))
            self.assertEqual([time * factor for time, _, _ in runnings(made * factor)], [time for time, _, _ in
                                                                                         runnings(made)])
            wide = Rain([(spot * factor, volume) for spot, volume in made.drops]) * factor
            self.assertEqual(layout(wide)[0], tuple((left * factor, right * factor) for left, right in berths(made)))
            self.assertEqual(list(runnings(wide)), list(runnings(made)))

    def test_mirrored_and_moved_grounds(self):
        for bag in BAGS:
            made = rain(bag)
            found = Ground.filled(made).stretches()
            self.assertEqual(Ground.filled(-made).stretches(), turned_over(found))
            self.assertEqual(Ground.filled(made >> 7).stretches(), moved(found, 7))
            low, high = -90, 90
            found = Trough.filled(low, high, made).stretches()
            self.assertEqual(Trough.filled(low, high, -made).stretches(), turned_over(found))
            self.assertEqual(Trough.filled(low + 7, high + 7, made >> 7).stretches(), moved(found, 7))
            ring, mirrored, turned = Ring.filled(90, made), Ring.filled(90, -made), Ring.filled(90, made >> 7)
            for at in range(-1, 181):
                spot = Ratio(at, 2)
                self.assertEqual([mirrored.is_wet(-spot), turned.is_wet(spot + 7)], [ring.is_wet(spot)] * 2)

    def test_grounds_in_another_measure(self):
        for bag, factor in product(BAGS, (3, Ratio(2, 7))):
            made = rain(bag)
            wide = Rain([(spot * factor, volume * factor) for spot, volume in made.drops])
            for one, other in [
                (Ground.filled(made), Ground.filled(wide)),
                (Ring.filled(60, made), Ring.filled(60 * factor, wide)),
                (Trough.filled(-90, 95, made), Trough.filled(-90 * factor, 95 * factor, wide)),
            ]:
                expected = tuple((left * factor, right * factor) for left, right in one.stretches())
                self.assertEqual(other.stretches(), expected)


class Orders(Case):
    def test_the_order_of_drops(self):
        for bag in BAGS + LIMITS:
            one, last = rain(bag), len(bag) - 1
            for other in (rain(bag[::-1]), rain(mixed(bag, 1)), rain(bag[1:]) + rain(bag[:1])):
                for question in (settle, groups, layout, work, lambda made: list(runnings(made)), lambda made: wet_from(
                        made, 5), lambda made: joined_from(made, 0, last), lambda made: least_volume(made, 5, last, 0)):
                    self.assertEqual(question(one), question(other))

    def test_the_order_of_pouring(self):
        for bag in BAGS:
            for make in (Ground, lambda: Trough(-100, 100), lambda: Ring(70)):
                found = []
                for order in (bag, bag[::-1], mixed(bag, 1), mixed(bag, 2)):
                    ground = make()
                    for spot, volume in order:
                        ground.pour(ratio(spot), ratio(volume))
                    found.append((ground.rain(), ground.stretches(), ground.dry(), ground.volume))
                self.assertEqual(found, found[:1] * 4)

    def test_running_together_in_parts(self):
        for one, other in product(BAGS, repeat=2):
            first, second = rain(one), rain(other)
            whole = (first + second)(1)
            self.assertEqual(whole, first(1) + second(1))
            self.assertEqual(whole, Water.settled(list(second(1).pools()) + list(first(1).pools())))
            self.assertEqual(whole, Water.settled([Pool(spot, volume) for spot, volume in second.drops + first.drops]))

    def test_more_rain(self):
        for one, other in product(BAGS, repeat=2):
            first, more = rain(one), rain(one) + rain(other)
            self.assertIs(first(1) <= more(1), True)
            self.assertIs(first(1) <= first(Ratio(8, 7)), True)
            for spot in (-9, Ratio(5, 2), 30):
                self.assertLessEqual(wet_from(more, spot)[0], wet_from(first, spot)[0])
                self.assertLessEqual(room_at(more(1), spot), room_at(first(1), spot))

    def test_steady_rain_wets_each_spot_once(self):
        for bag in BAGS:
            made = rain(bag)
            times = [Ratio(at, 7) for at in range(1, 40)]
            for spot in (-5, 0, Ratio(7, 2), 11):
                start, _, _ = wet_from(made, spot)
                wet = [spot in made(time) for time in times]
                self.assertEqual(wet, [time >= start for time in times])


def questions(made):
    """Calls about a rain and what belongs to it, each with an answer that can be compared."""
    last = len(made) - 1
    return [
        lambda: settle(made), lambda: groups(made), lambda: berths(made), lambda: shifts(made), lambda: pushes(made),
        lambda: work(made), lambda: layout(made), lambda: layout_holds(made, layout(made)), lambda: made(Ratio(1, 3)),
        lambda: list(runnings(made)), lambda: joined_from(made, 0, last), lambda: wet_from(made, Ratio(5, 2)),
        lambda: least_volume(made, 6, last, 0), lambda: room_at(made(1), 50), lambda: str(made), lambda: made.middle,
        lambda: -made, lambda: made * 3, lambda: Ground.filled(made).stretches(), lambda: Ring.filled(9, made).dry(),
        lambda: Ring.filled(900, made).stretches(), lambda: Trough.filled(-10 ** 10, 10 ** 10, made).stretches(),
        lambda: attempt(Ground.filled(made), [("trial", "no", [("pour", 5, 1)]), ("undo",)]), lambda: str(made(1)),
    ]


class Lasting(Case):
    def test_answers_do_not_depend_on_what_was_asked_before(self):
        for bag in BAGS[:6]:
            made = rain(bag)
            alone = [question() for question in questions(rain(bag))]
            asked = questions(made)
            for order in (range(len(asked)), reversed(range(len(asked))), mixed(range(len(asked)), 5)):
                for at in order:
                    self.assertEqual(asked[at](), alone[at])
            self.assertEqual(made, rain(bag))

    def test_answers_about_a_ground_that_does_not_change(self):
        for ground in (Ground(), Trough(-9, 60), Ring(30)):
            for at in range(9):
                ground.pour(at * at % 31, 1 + at % 3)
            steps = [("trial", "no", [("pour", 9, 1), ("undo",), ("undo",)])]
            asked = [
                ground.rain, ground.stretches, ground.changes, ground.dry, lambda: ground.volume, lambda: len(ground),
                lambda: repr(ground), lambda: ground.is_wet(4), lambda: ground.is_wet(20),
                lambda: attempt(ground, steps),
                lambda: within(ground.trial(), lambda held: ground.pour(1, 1) or ground.undo()),
            ]
            alone = [question() for question in asked]
            for order in (range(len(asked)), reversed(range(len(asked))), mixed(range(len(asked)), 7)):
                for at in order:
                    self.assertEqual(asked[at](), alone[at])

    def test_arguments_stay_as_they_are_and_may_change_later(self):
        drops = [(3, 1), (0, 2), (9, 1)]
        made = Rain(drops)
        ground = Ground.filled(made)
        steps = [("pour", 5, 1), ("trial", "both", [("undo",), ("take", 3, 1)])]
        attempt(ground, steps)
        self.assertEqual(steps, [("pour", 5, 1), ("trial", "both", [("undo",), ("take", 3, 1)])])
        self.assertEqual(drops, [(3, 1), (0, 2), (9, 1)])
        steps[1][2].clear()
        steps.clear()
        drops.clear()
        self.assertEqual([len(made), ground.rain()], [3, Rain([(0, 2), (9, 1)])])
        self.assertEqual(ground.changes(), [("pour", 0, 2), ("pour", 3, 1), ("pour", 9, 1), ("take", 3, 1)])

    def test_by_name_in_another_order(self):
        made = Rain(drops=[(0, 2), (3, 2), (4, 1)])
        water = Water(pools=[Pool(volume=2, middle=0), Pool.between(right=9, left=7)])
        ground = Ground()
        self.assertIs(ground.pour(volume=2, spot=1), None)
        self.assertIs(ground.take(volume=2, spot=1), None)
        for answer, expected in [
            (joined_from(other=2, one=0, rain=made), Ratio(4, 3)), (wet_from(spot=6, rain=made), (Ratio(8, 5), 0, 2)),
            (list(runnings(rain=made)), [(Ratio(2, 3), 1, 2), (Ratio(4, 3), 0, 2)]),
            (least_volume(one=2, other=0, spot=9, rain=made), least_volume(made, 9, 2, 0)),
            (room_at(spot=4, water=water), 6), (Ring.turned(length=4, spot=9), 1), (len(Trough(right=2, left=1)), 0),
            (len(Ring(length=3)), 0), (ground.is_wet(spot=1), False), (Desk().say(command="undo"), "nothing"),
            (within(deed=lambda held: held.is_open, trial=ground.trial()), True),
            (attempt(steps=[("undo",)], ground=ground), [((0, 2),)]),
        ]:
            self.assertEqual(answer, expected)


class Kinds(Case):
    def test_objects_are_equal_to_nothing_of_another_kind(self):
        made = Rain([(0, 1)])
        objects = [
            Ratio(1), Pool(0, 1), made(1), Water(), made, Rain(), Ground(), Ground.filled(made), Trough(0, 1), Ring(1),
            Ground().trial(), Desk(), PoolError(),
        ]
        others = [True, False, None, "", "0 1", "1", (), (0, 1), ((0, 1),), [], object()]
        kinds = [type(one) for one in objects]
        for one in objects:
            self.assert_equals_none(one, others)
            self.assert_equals_none(one, [other for other, kind in zip(objects, kinds) if kind is not type(one)])

    def test_great_numbers_as_integers_and_as_ratios(self):
        for scale in (10 ** 9, 10 ** 9 - 1):
            spots = [-scale, -scale + 7, 0, 5, scale]
            integers = [(spot, 1 + at * scale // 9) for at, spot in enumerate(spots)]
            ratios = [(Ratio(spot), Ratio(2 * volume, 2)) for spot, volume in integers]
            for one, other in zip(questions(Rain(integers)), questions(Rain(ratios))):
                self.assertEqual(one(), other())
            line, ring = Ground.filled(Rain(integers)), Ring.filled(scale, Rain(ratios))
            self.assertEqual(line.volume, ring.volume)
            self.assertEqual(ring.stretches(), ((0, scale),))

    def test_unlike_denominators(self):
        for bag in LIMITS:
            made = rain(bag)
            self.assertIs(layout_holds(made, layout(made)), True)
            triples = list(runnings(made))
            for before, after in zip(triples, triples[1:]):
                self.assertLess((before[0], before[1]), (after[0], after[1]))
            self.assertEqual(triples[-1][1:], (0, 39))
            time = triples[-1][0]
            self.assertEqual([len(made(time)), joined_from(made, 0, 39)], [1, time])
            self.assertGreater(len(made(time * ratio(1 - TINY))), 1)
            width = made.drops[-1][0] - made.drops[0][0] + made.volume
            low = made.drops[0][0]
            ring, trough = Ring.filled(width, made), Trough.filled(low, low + width, made)
            for ground in (ring, trough):
                covered = sum([right - left for left, right in ground.stretches()], start=Ratio(0))
                self.assertEqual([covered, ground.dry()], [made.volume, width - made.volume])


if __name__ == "__main__":
    unittest.main()
