"""Points [20] to [22], with [6] and [7]: settling and layouts."""

import unittest
from fractions import Fraction
from itertools import combinations_with_replacement, permutations, product

from poolsmeet.layouts import berths, groups, layout, layout_holds, pushes, settle, shifts, work
from poolsmeet.rains import Rain
from poolsmeet.ratios import Ratio
from poolsmeet.waters import Water
from support import ANY_VALUES, DEEP, TINY, Case, fraction, fractions, mixed, pair, ratio, run_together, some_pairs

HALF = Fraction(1, 2)
QUESTIONS = [settle, groups, berths, shifts, pushes, work, layout]

# Rains in which drops lie at one spot, are equal, just touch, are just apart, and run together one after another.
BAGS = [fractions(bag) for bag in [
    [], [(5, 3)], [(0, 1), (0, 1)], [(0, 1), (0, 2), (0, 2)], [(0, 2), (2, 2)], [(0, 2), (2 + TINY, 2)],
    [(0, 2), (2 - TINY, 2)], [(0, 2), (3, 2), (4, 1)], [(0, 2), (1, 2), (9, 1)], [(0, 1), (9, 2), (10, 2)],
    [(0, 10), (4, 1), (7, 2)], [(-4, 1), (-3, 5), (0, HALF), (3, 5), (4, 1)], [(0, 1), (1, 1), (2, 1), (3, 1)],
    [(0, 1), (1 + TINY, 1), (2 + 3 * TINY, 1)], [(0, 1), (5, 1), (Fraction(5, 2), 4)],
    [(0, 1), (5, 1), (Fraction(5, 2), 5)],
    [(Fraction(1, 3), Fraction(2, 7)), (HALF, Fraction(1, 9)), (2, 3), (Fraction(11, 3), Fraction(5, 2)), (7, HALF)],
    [(10 ** 9, 10 ** 9), (-(10 ** 9), 10 ** 9), (0, Fraction(1, 1000))], [(1, 1), (2, 2), (4, 4), (8, 8), (16, 16)],
    [(0, 3), (HALF, 1), (20, 1), (21, 3), (22, 1), (40, 1), (40, 1), (41, 2)],
]]
BAGS += [list(bag) for bag in combinations_with_replacement(fractions(product(range(4), (HALF, 1, 2))), 3)]
BAGS += [some_pairs(many, many * width, width) for many in (6, 15, 40) for width in (8, 40, 120, 900)]
BAGS += [[(Fraction(3), Fraction(1))] * 40, [((1 + TINY) * at, Fraction(1)) for at in range(40)]]


def rain(bag):
    return Rain([(ratio(spot), ratio(volume)) for spot, volume in bag])


def lies_at(drops):
    """The left ends of the berths, by the formula for the nearest sequence that ascends.

    If each left end is taken less the volume before it, the berths ask for the ascending sequence that is nearest, by
    volume, to what each drop alone would take. Its items are the greatest among the least means.
    """
    before = [sum((volume for _, volume in drops[:at]), Fraction(0)) for at in range(len(drops))]
    alone = [spot - volume / 2 - start for (spot, volume), start in zip(drops, before)]
    weighed = [(volume, volume * want) for (_, volume), want in zip(drops, alone)]

    def mean(first, last):
        rows = weighed[first:last + 1]
        return sum(part for _, part in rows) / sum(volume for volume, _ in rows)

    found = []
    for at in range(len(drops)):
        low = max(min(mean(first, last) for last in range(at, len(drops))) for first in range(at + 1))
        found.append(low + before[at])
    return found


def expected_berths(drops):
    return [(left, left + volume) for left, (_, volume) in zip(lies_at(drops), drops)]


def middle(stretch):
    return sum(stretch) / 2


def expected_pushes(drops, pools):
    """Summed up pool by pool, as the definition says."""
    out, at = [], 0
    for left, volume in ((centre - volume / 2, volume) for centre, volume in pools):
        push = Fraction(0)
        end = left + volume
        while left < end:
            spot, amount = drops[at]
            push += amount * (spot - left - amount / 2)
            out.append(push)
            left += amount
            at += 1
    return out


def expected_groups(drops, pools):
    out, first = [], 0
    for _, volume in pools:
        last = first
        while sum(amount for _, amount in drops[first:last + 1]) < volume:
            last += 1
        out.append((first, last))
        first = last + 1
    return out


class LayoutCase(Case):
    def assert_ratios(self, value, expected):
        self.assertIs(type(value), tuple)
        self.assertEqual([type(number) for number in value], [Ratio] * len(value))
        self.assertEqual([fraction(number) for number in value], list(expected))

    def assert_groups(self, value, expected):
        self.assertIs(type(value), tuple)
        for item in value:
            self.assertIs(type(item), tuple)
            self.assertEqual([type(index) for index in item], [int, int])
        self.assertEqual(list(value), list(expected))

    def assert_water(self, value, expected):
        self.assertIs(type(value), Water)
        self.assertEqual([pair(one) for one in value.pools()], list(expected))


class Answers(LayoutCase):
    def test_settle(self):
        for bag in BAGS:
            self.assert_water(settle(rain(bag)), run_together(bag))
            self.assertIs(settle(rain(bag)) == rain(bag)(1), True)

    def test_groups(self):
        for bag in BAGS:
            self.assert_groups(groups(rain(bag)), expected_groups(sorted(bag), run_together(bag)))

    def test_berths(self):
        for bag in BAGS:
            drops = sorted(bag)
            if len(drops) < 20:
                self.assert_pairs(berths(rain(bag)), expected_berths(drops))

    def test_berths_fill_the_pools(self):
        for bag in BAGS:
            made, drops = berths(rain(bag)), sorted(bag)
            pools = run_together(bag)
            expected = []
            for (centre, volume), (first, last) in zip(pools, expected_groups(drops, pools)):
                left = centre - volume / 2
                for _, amount in drops[first:last + 1]:
                    expected.append((left, left + amount))
                    left += amount
            self.assert_pairs(made, expected)

    def test_shifts(self):
        for bag in BAGS:
            found = [middle((fraction(left), fraction(right))) for left, right in berths(rain(bag))]
            self.assert_ratios(shifts(rain(bag)), [at - spot for at, (spot, _) in zip(found, sorted(bag))])

    def test_pushes(self):
        for bag in BAGS:
            drops = sorted(bag)
            found = pushes(rain(bag))
            self.assert_ratios(found, expected_pushes(drops, run_together(bag)))
            self.assertTrue(all(push >= 0 for push in found))
            self.assertTrue(all(found[last] == 0 for _, last in groups(rain(bag))))

    def test_work(self):
        for bag in BAGS:
            found = [fraction(shift) for shift in shifts(rain(bag))]
            expected = sum(volume * shift * shift for (_, volume), shift in zip(sorted(bag), found))
            self.assert_ratio(work(rain(bag)), expected)

    def test_layout(self):
        for bag in BAGS:
            made = layout(rain(bag))
            self.assertIs(type(made), tuple)
            self.assertEqual(len(made), 2)
            self.assertEqual(made, (berths(rain(bag)), pushes(rain(bag))))
            self.assert_pairs(made[0], [(fraction(left), fraction(right)) for left, right in berths(rain(bag))])
            self.assert_ratios(made[1], [fraction(push) for push in pushes(rain(bag))])

    def test_without_drops(self):
        made = Rain()
        self.assert_water(settle(made), [])
        self.assertEqual([groups(made), berths(made), shifts(made), pushes(made)], [()] * 4)
        self.assertEqual(layout(made), ((), ()))
        self.assert_ratio(work(made), 0)

    def test_drops_in_any_order(self):
        for bag in BAGS[:19]:
            first = [question(rain(bag)) for question in QUESTIONS]
            for order in list(permutations(bag))[:24] + [mixed(bag, 4)]:
                self.assertEqual([question(rain(order)) for question in QUESTIONS], first)

    def test_mirrored_and_moved_rains(self):
        for bag in BAGS[:40]:
            made = rain(bag)
            self.assertEqual(settle(-made), -settle(made))
            self.assertEqual(work(-made), work(made))
            self.assertEqual(settle(made >> Ratio(7, 3)), settle(made) >> Ratio(7, 3))
            self.assertEqual(layout(made << 5)[0], tuple((left - 5, right - 5) for left, right in berths(made)))
            self.assertEqual([groups(made >> 9), pushes(made >> 9), shifts(made >> 9)],
                             [groups(made), pushes(made), shifts(made)])

    def test_by_name(self):
        made = Rain([(0, 2), (1, 2), (9, 1)])
        for question in QUESTIONS:
            self.assertEqual(question(rain=made), question(made))
        self.assertIs(layout_holds(rain=made, value=layout(made)), True)
        self.assertIs(layout_holds(value=((), ()), rain=made), False)


class SingleCases(LayoutCase):
    def test_drops_at_one_spot(self):
        made = Rain([(4, 3), (4, 1), (4, 2), (4, 1)])
        self.assert_groups(groups(made), [(0, 3)])
        starts = [Fraction(1, 2), Fraction(3, 2), Fraction(5, 2), Fraction(9, 2), Fraction(15, 2)]
        self.assert_pairs(berths(made), list(zip(starts, starts[1:])))
        self.assert_ratios(shifts(made), [-3, -2, -HALF, 2])
        self.assert_ratios(pushes(made), [3, 5, 6, 0])
        self.assert_ratio(work(made), 9 + 4 + HALF + 12)

    def test_equal_drops(self):
        made = Rain([(0, 2)] * 3)
        self.assert_groups(groups(made), [(0, 2)])
        self.assert_pairs(berths(made), [(-3, -1), (-1, 1), (1, 3)])
        self.assert_ratios(pushes(made), [4, 4, 0])
        self.assert_ratio(work(made), 16)

    def test_drops_that_just_touch(self):
        made = Rain([(0, 2), (2, 2)])
        self.assert_groups(groups(made), [(0, 1)])
        self.assert_pairs(berths(made), [(-1, 1), (1, 3)])
        self.assert_ratios(shifts(made), [0, 0])
        self.assert_ratios(pushes(made), [0, 0])
        self.assert_ratio(work(made), 0)
        self.assert_water(settle(made), [(1, 4)])

    def test_drops_that_are_just_apart(self):
        made = rain(fractions([(0, 2), (2 + TINY, 2)]))
        self.assert_groups(groups(made), [(0, 0), (1, 1)])
        self.assert_pairs(berths(made), [(-1, 1), (1 + TINY, 3 + TINY)])
        self.assert_ratios(pushes(made), [0, 0])
        self.assert_ratio(work(made), 0)

    def test_several_pools(self):
        made = Rain([(0, 1), (0, 1), (10, 1), (20, 2), (21, 2), (22, 2)])
        self.assert_groups(groups(made), [(0, 1), (2, 2), (3, 5)])
        self.assert_pairs(berths(made), [(-1, 0), (0, 1), (10 - HALF, 10 + HALF), (18, 20), (20, 22), (22, 24)])
        self.assert_ratios(shifts(made), [-HALF, HALF, 0, -1, 0, 1])
        self.assert_ratios(pushes(made), [HALF, 0, 0, 2, 2, 0])
        self.assert_ratio(work(made), HALF + 4)

    def test_the_example_of_the_document(self):
        a = Rain([(0, 2), (1, 2), (9, 1)])
        answers = [groups(a), [str(left) for left, right in berths(a)], [str(p) for p in pushes(a)], str(work(a))]
        self.assertEqual(answers, [((0, 1), (2, 2)), ["-3/2", "1/2", "17/2"], ["1", "0", "0"], "1"])

    def test_the_first_example_about_rain(self):
        made = Rain([(0, 2), (3, 2), (4, 1)])
        self.assert_groups(groups(made), [(0, 0), (1, 2)])
        self.assert_groups(groups(made * 2), [(0, 2)])
        self.assert_groups(groups(made * Ratio(1, 3)), [(0, 0), (1, 1), (2, 2)])


class Lasting(LayoutCase):
    def test_a_question_asked_first_and_asked_again(self):
        for bag in (BAGS[8], BAGS[10], BAGS[19], []):
            alone = [question(rain(bag)) for question in QUESTIONS]
            for start in range(len(QUESTIONS)):
                made = rain(bag)
                for place in [*range(start, len(QUESTIONS)), *range(start), *range(len(QUESTIONS))]:
                    self.assertEqual(QUESTIONS[place](made), alone[place])
                    self.assertIs(layout_holds(made, layout(made)), True)
                    self.assertIs(layout_holds(made, ((), (), ())), False)
                self.assert_pairs(made.drops, sorted(bag))
                self.assertEqual(made, rain(bag))

    def test_other_rains_in_between(self):
        first, second = rain(BAGS[8]), rain(BAGS[10])
        one, other = [[question(made) for question in QUESTIONS] for made in (first, second)]
        self.assertNotEqual(one, other)
        for place, question in enumerate(QUESTIONS):
            self.assertEqual(question(first), one[place])
            self.assertEqual(question(second), other[place])
            self.assertEqual(question(first), one[place])


def cuts(many):
    """All ways to cut so many drops, in their order, into groups: lists of pairs (first, behind the last)."""
    for inner in product((False, True), repeat=max(0, many - 1)):
        edges = [0, *[at + 1 for at, cut in enumerate(inner) if cut], many]
        yield list(zip(edges, edges[1:])) if many else []


def mass(drops):
    volume = sum(volume for _, volume in drops)
    return sum(spot * volume for spot, volume in drops) / volume, volume


def touch(one, other):
    return 2 * abs(one[0] - other[0]) <= one[1] + other[1]


def holds_together(drops):
    return all(touch(mass(drops[:at]), mass(drops[at:])) for at in range(1, len(drops)))


class Promises(LayoutCase):
    """What the document promises of water, rain, berths and pushes as a whole."""

    def test_the_only_pools_that_are_apart_and_hold_together(self):
        for bag in BAGS[:60]:
            drops = sorted(bag)
            found = []
            for cut in cuts(len(drops)):
                parts = [drops[first:behind] for first, behind in cut]
                pools = [mass(part) for part in parts]
                apart = not any(touch(one, other) for one, other in zip(pools, pools[1:]))
                if apart and all(map(holds_together, parts)):
                    found.append((cut, pools))
            (cut, pools), = found
            self.assert_water(settle(rain(bag)), pools)
            self.assert_groups(groups(rain(bag)), [(first, behind - 1) for first, behind in cut])

    def test_two_rains_together(self):
        for one, other in product(BAGS[:20], BAGS[:20]):
            first, second = rain(one), rain(other)
            whole = settle(first + second)
            self.assert_water(whole, run_together(one + other))
            self.assertEqual(whole, settle(first) + settle(second))
            self.assertIs(settle(first) <= whole, True)
            for pool in settle(first).pools():
                self.assertEqual(whole(pool.left), whole(pool.right))

    def test_wet_ground_grows(self):
        times = [ratio(time) for time in (0, TINY, Fraction(1, 9), HALF, 1, Fraction(5, 4), 2, 3, 50)]
        for bag in BAGS[:40]:
            waters = [rain(bag)(time) for time in times]
            for before, after in zip(waters, waters[1:]):
                self.assertIs(before <= after, True)
                self.assertIs(before < after, len(bag) > 0)

    def test_the_least_work(self):
        grid = [Fraction(step, 2) for step in range(-4, 9)]
        for bag in ([(0, 1), (1, 2)], [(0, 1), (0, 1)], [(0, 2), (3, 1)], [(0, 1), (1, 1), (1, 1)]):
            drops = sorted(fractions(bag))
            made = rain(drops)
            for starts in product(grid, repeat=len(drops)):
                stretches = [(left, left + volume) for left, (_, volume) in zip(starts, drops)]
                if all(before[1] <= after[0] for before, after in zip(stretches, stretches[1:])):
                    moves = [middle(stretch) - spot for (spot, _), stretch in zip(drops, stretches)]
                    spent = sum(volume * move * move for (_, volume), move in zip(drops, moves))
                    self.assertGreaterEqual(spent, fraction(work(made)))
                    same = as_value(stretches, [])[0] == berths(made)
                    self.assertIs(spent == fraction(work(made)), same)


def is_layout(drops, stretches, levels):
    """The rules of [22] in the order of the document, for lists of fractions."""
    if not len(stretches) == len(levels) == len(drops):
        return False
    before = [Fraction(0), *levels]
    neighbours = list(zip(stretches, stretches[1:], levels))
    return all([
        all(right - left == volume for (left, right), (_, volume) in zip(stretches, drops)),
        all(after[0] >= first[1] for first, after, _ in neighbours),
        all(level >= 0 for level in levels),
        all(level - last == volume * (spot - middle(stretch))
            for level, last, (spot, volume), stretch in zip(levels, before, drops, stretches)),
        before[-1] == 0,
        all(push == 0 for first, after, push in neighbours if after[0] > first[1]),
    ])


def as_value(stretches, levels):
    """A value with ratios that is built like a layout."""
    return tuple((ratio(left), ratio(right)) for left, right in stretches), tuple(ratio(level) for level in levels)


def whole_as_integers(value):
    if isinstance(value, tuple):
        return tuple(whole_as_integers(item) for item in value)
    return value.top if value.is_whole else value


def pushes_for(drops, stretches):
    out, push = [], Fraction(0)
    for (spot, volume), stretch in zip(drops, stretches):
        push += volume * (spot - middle(stretch))
        out.append(push)
    return out


def replaced(value, at, item):
    return value[:at] + (item,) + value[at + 1:]


class Certificates(LayoutCase):
    def assert_holds(self, bag, value, expected):
        self.assertIs(layout_holds(rain(fractions(bag)), value), expected)

    def assert_broken(self, bag, stretches, levels):
        """A value of the right form that breaks a rule of [22], also if its whole ratios are integers."""
        value = as_value(fractions(stretches), [Fraction(level) for level in levels])
        self.assertFalse(is_layout(sorted(fractions(bag)), fractions(stretches), [Fraction(level) for level in levels]))
        self.assert_holds(bag, value, False)
        self.assert_holds(bag, whole_as_integers(value), False)

    def test_the_layout_holds(self):
        for bag in BAGS:
            value = layout(rain(bag))
            self.assert_holds(bag, value, True)
            self.assert_holds(bag, whole_as_integers(value), True)
            self.assert_holds(bag[::-1], value, True)

    def test_the_layout_of_another_rain(self):
        for one, other in product(BAGS[:30], BAGS[:30]):
            self.assert_holds(one, layout(rain(other)), one == other)

    def test_each_number_is_needed(self):
        for bag in BAGS[:60:2]:
            stretches, levels = layout(rain(bag))
            for at in range(len(stretches)):
                left, right = stretches[at]
                for change in (1, -1, ratio(TINY), ratio(-TINY)):
                    for item in ((left + change, right), (left, right + change), (left + change, right + change),
                                 (left - change, right + change)):
                        self.assert_holds(bag, (replaced(stretches, at, item), levels), False)
                    self.assert_holds(bag, (stretches, replaced(levels, at, levels[at] + change)), False)
                if left + right != 0:
                    self.assert_holds(bag, (replaced(stretches, at, (-right, -left)), levels), False)
                self.assert_holds(bag, (replaced(stretches, at, (right, left)), levels), False)

    def test_only_the_layout_holds(self):
        grid = [Fraction(step, 2) for step in range(-4, 9)]
        held = 0
        for bag in (
            [(0, 1)], [(0, 1), (1, 2)], [(0, 1), (0, 1)], [(0, 2), (2, 1)], [(0, 1), (1, 1), (1, 1)], [(-1, 1), (3, 2)],
        ):
            drops = sorted(fractions(bag))
            for starts in product(grid, repeat=len(drops)):
                stretches = [(left, left + volume) for left, (_, volume) in zip(starts, drops)]
                levels = pushes_for(drops, stretches)
                value, expected = as_value(stretches, levels), is_layout(drops, stretches, levels)
                self.assert_holds(bag, value, expected)
                self.assertIs(value == layout(rain(drops)), expected)
                held += expected
        self.assertGreaterEqual(held, 4)


class BrokenRules(Certificates):
    """In each case, all rules but the one that is named are kept."""

    def test_a_wrong_length(self):
        for stretches in ([(-2, 2)], [(-HALF, HALF)], [(0, 0)], [(1, -1)], [(-1 - TINY, 1 + TINY)]):
            self.assert_broken([(0, 2)], stretches, [0])
        self.assert_broken([(0, 2), (10, 2)], [(-1, 1), (8, 12)], [0, 0])
        self.assert_broken([(0, 2), (10, 2)], [(-1 + TINY, 1 - TINY), (9, 11)], [0, 0])

    def test_an_overlap(self):
        self.assert_broken([(0, 2), (1, 2)], [(-1, 1), (0, 2)], [0, 0])
        self.assert_broken([(0, 2), (2 - TINY, 2)], [(-1, 1), (1 - TINY, 3 - TINY)], [0, 0])
        self.assert_broken([(0, 2), (0, 2)], [(-1, 1), (-1, 1)], [0, 0])
        self.assert_broken([(0, 1), (0, 2)], [(1, 2), (-HALF - 1, HALF)], [-HALF * 3, -HALF])
        self.assert_broken([(0, 4), (0, 4), (1, 1)], [(-4, 0), (0, 4), (HALF, HALF + 1)], [8, 0, 0])

    def test_a_negative_push(self):
        self.assert_broken([(0, 2), (10, 2)], [(3, 5), (5, 7)], [-8, 0])
        close = 2 + 2 * TINY
        self.assert_broken([(0, 2), (close, 2)], [(-1 + TINY, 1 + TINY), (1 + TINY, 3 + TINY)], [-2 * TINY, 0])
        self.assert_broken([(0, 1), (0, 1), (9, 1)], [(2 - HALF, 2 + HALF), (3 - HALF, 3 + HALF), (4 - HALF, 4 + HALF)],
                           [-2, -5, 0])

    def test_a_wrong_push(self):
        self.assert_broken([(0, 2)], [(0, 2)], [0])
        self.assert_broken([(0, 2)], [(-1 + TINY, 1 + TINY)], [0])
        self.assert_broken([(0, 2), (1, 2)], [(Fraction(-3, 2), HALF), (HALF, Fraction(5, 2))], [2, 0])
        self.assert_broken([(0, 2), (1, 2)], [(Fraction(-3, 2), HALF), (HALF, Fraction(5, 2))], [0, 0])
        self.assert_broken([(0, 2), (1, 2)], [(-1, 1), (1, 3)], [0, 0])
        self.assert_broken([(0, 2), (1, 2), (9, 1)], [(-2, 0), (0, 2), (9 - HALF, 9 + HALF)], [1, 0, 0])

    def test_a_last_push_that_is_not_0(self):
        self.assert_broken([(0, 2)], [(-2, 0)], [2])
        self.assert_broken([(0, 2)], [(-1 - TINY, 1 - TINY)], [2 * TINY])
        self.assert_broken([(0, 1), (5, 1)], [(-HALF, HALF), (4 - HALF, 4 + HALF)], [0, 1])
        self.assert_broken([(0, 2), (1, 2)], [(-2, 0), (0, 2)], [2, 2])

    def test_a_gap_behind_a_push_that_is_not_0(self):
        self.assert_broken([(0, 2), (10, 2)], [(-2, 0), (10, 12)], [2, 0])
        self.assert_broken([(0, 2), (1, 2)], [(-2, 0), (1, 3)], [2, 0])
        self.assert_broken([(0, 1), (0, 1)], [(-1 - TINY, -TINY), (TINY, 1 + TINY)], [HALF + TINY, 0])
        self.assert_broken([(0, 1), (10, 1), (10, 1)], [(-HALF, HALF), (8, 9), (11, 12)], [0, Fraction(3, 2), 0])

    def test_too_few_and_too_many_items(self):
        for bag in BAGS[:30]:
            stretches, levels = layout(rain(bag))
            more = ((Ratio(10 ** 12), Ratio(10 ** 12 + 1)),)
            for value in (
                (stretches + more, levels), (stretches, levels + (Ratio(0),)), (stretches + more, levels + (Ratio(0),)),
                (more + stretches, (Ratio(0),) + levels), (stretches, levels, ()), (stretches,), (levels,),
                (levels, stretches, levels), (stretches, levels, levels), ((stretches, levels),), (stretches + levels,),
                stretches + levels * 2,
            ):
                self.assert_holds(bag, value, False)
            if bag:
                for value in (
                    (stretches[:-1], levels), (stretches, levels[:-1]), (stretches[:-1], levels[:-1]), ((), ()),
                    (stretches[1:], levels[1:]), ((), levels), (stretches, ()), (levels, stretches),
                    (stretches, stretches), (levels, levels), stretches, levels,
                ):
                    self.assert_holds(bag, value, False)

    def test_the_first_drops_alone_are_too_few(self):
        bag = [(0, 2), (1, 2), (9, 1)]
        stretches, levels = layout(Rain(bag))
        self.assert_holds(bag[:2], (stretches[:2], levels[:2]), True)
        self.assert_holds(bag, (stretches[:2], levels[:2]), False)
        self.assert_holds(bag[:2], (stretches, levels), False)


class OtherValues(Certificates):
    def test_values_of_any_kind(self):
        for bag in ([], [(0, 1)], [(0, 2), (1, 2)]):
            for place, value in enumerate(ANY_VALUES):
                with self.subTest(place=place):
                    self.assert_holds(bag, value, not bag and value == ((), ()))
                    self.assert_holds(bag, (value, value), not bag and value == ())
                    self.assert_holds(bag, (value, ()), not bag and value == ())
                    self.assert_holds(bag, ((), value), not bag and value == ())
                    self.assert_holds(bag, (value, value, value), False)
            self.assert_holds(bag, DEEP, False)

    def test_a_value_in_the_place_of_a_part(self):
        for bag in ([(0, 1)], [(0, 2), (1, 2)], [(HALF, 1), (9, 1)]):
            stretches, levels = layout(rain(fractions(bag)))
            for place, value in enumerate(ANY_VALUES):
                for at in range(len(bag)):
                    left, right = stretches[at]
                    with self.subTest(place=place, at=at):
                        self.assert_holds(bag, (replaced(stretches, at, value), levels), False)
                        self.assert_holds(bag, (stretches, value), value == levels)
                        self.assert_holds(bag, (value, levels), False)
                        same = isinstance(value, (int, Ratio)) and not isinstance(value, bool)
                        for old, changed in [
                            (left, (replaced(stretches, at, (value, right)), levels)),
                            (right, (replaced(stretches, at, (left, value)), levels)),
                            (levels[at], (stretches, replaced(levels, at, value))),
                        ]:
                            self.assert_holds(bag, changed, same and value == old)

    def test_berths_that_are_no_pairs(self):
        for item in ((-1, 1, 1), (-1,), (), [-1, 1], [Ratio(-1), Ratio(1)], "ab", None, True, 0, Ratio(-1), ((-1, 1),)):
            self.assert_holds([(0, 2)], ((item,), (0,)), False)
            self.assert_holds([(-9, 1), (0, 2)], (((-9 - Ratio(1, 2), -9 + Ratio(1, 2)), item), (0, 0)), False)

    def test_booleans_are_no_numbers(self):
        self.assert_holds([(HALF, 1)], (((0, 1),), (0,)), True)
        for value in ((((False, 1),), (0,)), (((0, True),), (0,)), (((0, 1),), (False,)), (((False, True),), (False,))):
            self.assert_holds([(HALF, 1)], value, False)
        self.assert_holds([(0, 2), (1, 2)], layout(Rain([(0, 2), (1, 2)])), True)
        stretches, _ = layout(Rain([(0, 2), (1, 2)]))
        self.assert_holds([(0, 2), (1, 2)], (stretches, (1, 0)), True)
        self.assert_holds([(0, 2), (1, 2)], (stretches, (True, 0)), False)
        self.assert_holds([(0, 2), (1, 2)], (stretches, (1, False)), False)

    def test_texts_and_nothing_in_the_place_of_numbers(self):
        for one in ("0", "", None, (), (0,), [0], ((),)):
            self.assert_holds([(HALF, 1)], (((one, 1),), (0,)), False)
            self.assert_holds([(HALF, 1)], (((0, one),), (0,)), False)
            self.assert_holds([(HALF, 1)], (((0, 1),), (one,)), False)

    def test_lists_in_the_place_of_tuples(self):
        for bag in ([], [(0, 1)], [(0, 2), (1, 2), (9, 1)]):
            stretches, levels = layout(Rain(bag))
            for value in ([stretches, levels], (list(stretches), levels), (stretches, list(levels)),
                          [list(stretches), list(levels)], (list(stretches), list(levels))):
                self.assert_holds(bag, value, False)
            for at in range(len(bag)):
                self.assert_holds(bag, (replaced(stretches, at, list(stretches[at])), levels), False)

    def test_the_value_stays_as_it_is(self):
        made = Rain([(0, 2), (1, 2), (9, 1)])
        value = layout(made)
        for _ in range(3):
            self.assertIs(layout_holds(made, value), True)
            self.assertIs(layout_holds(made, (value[1], value[0])), False)
        self.assertEqual(value, layout(made))
        self.assertEqual(made, Rain([(0, 2), (1, 2), (9, 1)]))

    def test_without_drops(self):
        self.assertIs(layout_holds(Rain(), ((), ())), True)
        for value in ((), ((),), ((), (), ()), [(), ()], ([], ()), ((), []), ((), None), (0, 0), ("", ""), None, "",
                      (((0, 1),), (0,)), ((), (0,)), (((0, 0),), ())):
            self.assertIs(layout_holds(Rain(), value), False)

    def test_great_numbers(self):
        huge = 10 ** 5000
        for value in (
            (((-huge, huge),), (0,)), (((huge, huge + 2),), (0,)), (((-1, 1),), (huge,)), (((-1, 1),), (-huge,)),
            (((Ratio(-huge, 7), Ratio(14 - huge, 7)),), (0,)),
        ):
            self.assert_holds([(0, 2)], value, False)


if __name__ == "__main__":
    unittest.main()
