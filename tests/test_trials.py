"""Points [33] and [34]: trials, and steps that are attempted."""

import copy
import unittest
from itertools import product

from poolsmeet.errors import Full, InvalidNumber, MissingDrop, OutOfGround, Overfull, TrialError, UnknownIndex
from poolsmeet.grounds import Ground, Ring, Trough, attempt, within
from poolsmeet.rains import Rain
from poolsmeet.ratios import Ratio
from poolsmeet.steady import joined_from
from support import Case, fraction

START = [(1, 2), (4, 1), (7, Ratio(1, 2))]


def kinds():
    """A ground of each kind with the drops of START, the last of them after a drop that was taken."""
    found = []
    for ground in (Ground(), Trough(-50, 50), Ring(50)):
        for spot, volume in START[:2]:
            ground.pour(spot, volume)
        ground.pour(9, 9)
        ground.take(9, 9)
        ground.pour(*START[2])
        found.append(ground)
    return found


def state(ground):
    """All that can be asked about a ground, but for single spots."""
    return [ground.rain(), ground.volume, ground.stretches(), ground.dry(), ground.changes(), len(ground), repr(ground)]


def beside(values):
    """Each of the values with new grounds of each kind."""
    return [(ground, value) for value in values for ground in kinds()]


class Stop(Exception):
    """An error that is none of the package's."""


class Blocks(Case):
    def test_taken_back_unless_it_is_kept(self):
        for ground in kinds():
            before = state(ground)
            with ground.trial() as trial:
                ground.pour(20, 3)
                ground.take(1, 2)
                self.assertEqual(ground.rain(), Rain([*START[1:], (20, 3)]))
            self.assertEqual(state(ground), before)
            with ground.trial() as trial:
                ground.pour(20, 3)
                self.assertIs(trial.keep(), None)
                ground.take(1, 2)
                inside = state(ground)
            self.assertEqual(state(ground), inside)
            self.assertEqual(ground.changes(), [*before[4], ("pour", 20, 3), ("take", 1, 2)])

    def test_kept_before_after_and_between_the_changes(self):
        for ground, at in beside(range(3)):
            with ground.trial() as trial:
                for step in range(2):
                    if step == at:
                        trial.keep()
                    ground.pour(20, step + 1)
                if at == 2:
                    trial.keep()
            self.assertEqual(ground.rain(), Rain([*START, (20, 1), (20, 2)]))
            self.assertEqual(ground.changes()[5:], [("pour", 20, 1), ("pour", 20, 2)])

    def test_the_changes_of_a_kept_trial_are_taken_back_one_by_one(self):
        for ground in kinds():
            states = [state(ground)]
            with ground.trial() as trial:
                for at in range(3):
                    ground.pour(20, at + 1)
                    states.append(state(ground))
                trial.keep()
            for earlier in reversed(states[:-1]):
                self.assertIs(ground.undo(), True)
                self.assertEqual(state(ground), earlier)

    def test_nothing_is_changed(self):
        for ground in kinds():
            before = state(ground)
            with ground.trial():
                pass
            with ground.trial() as trial:
                trial.keep()
            self.assertEqual(state(ground), before)

    def test_as_gives_the_trial_itself(self):
        for ground in kinds():
            trial = ground.trial()
            with trial as held:
                self.assertIs(held, trial)

    def test_errors_of_any_kind_are_passed_on(self):
        for ground, error in beside([Stop("x"), KeyError(1), Full(40), KeyboardInterrupt(), StopIteration()]):
            before = state(ground)
            trial = ground.trial()
            with self.assertRaises(type(error)) as caught, trial:
                ground.pour(20, 3)
                ground.undo()
                ground.undo()
                raise error
            self.assertIs(caught.exception, error)
            self.assertEqual(state(ground), before)
            self.assertIs(trial.is_open, False)

    def test_errors_of_the_ground_in_a_block(self):
        for ground in kinds():
            before = state(ground)
            for call, kind in [(lambda: ground.pour(1, 0), InvalidNumber), (lambda: ground.take(0, 1), MissingDrop)]:
                with self.assertRaises(kind), ground.trial():
                    ground.pour(20, 3)
                    call()
                self.assertEqual(state(ground), before)

    def test_an_error_in_a_kept_trial(self):
        for ground in kinds():
            with self.assertRaises(Stop), ground.trial() as trial:
                ground.pour(20, 3)
                trial.keep()
                ground.pour(21, 3)
                raise Stop
            self.assertEqual(ground.rain(), Rain([*START, (20, 3), (21, 3)]))
            self.assertIs(trial.is_open, False)

    def test_undo_of_changes_from_before(self):
        for ground in kinds():
            before = state(ground)
            with ground.trial():
                for many in range(5):
                    self.assertIs(ground.undo(), True)
                self.assertIs(ground.undo(), False)
                self.assertEqual(ground.changes(), [])
                ground.pour(30, 1)
                self.assertEqual(ground.changes(), [("pour", 30, 1)])
            self.assertEqual(state(ground), before)
            with ground.trial() as trial:
                ground.undo()
                ground.undo()
                ground.pour(30, 1)
                trial.keep()
            self.assertEqual(ground.changes(), [*before[4][:3], ("pour", 30, 1)])
            self.assertEqual(ground.rain(), Rain([*START[:2], (9, 9), (30, 1)]))

    def test_what_counts_is_when_the_block_begins(self):
        for ground in kinds():
            trial = ground.trial()
            ground.pour(20, 3)
            ground.take(1, 2)
            before = state(ground)
            with trial:
                ground.pour(21, 3)
            self.assertEqual(state(ground), before)

    def test_trials_made_ahead_and_entered_in_another_order(self):
        for ground in kinds():
            first, second = ground.trial(), ground.trial()
            before = state(ground)
            with second:
                ground.pour(20, 1)
                inner = state(ground)
                with first:
                    ground.pour(21, 1)
                self.assertEqual(state(ground), inner)
            self.assertEqual(state(ground), before)

    def test_trials_one_after_another(self):
        for ground in kinds():
            for at in range(4):
                before = state(ground)
                with ground.trial() as trial:
                    ground.pour(20 + at, 1)
                    if at % 2:
                        trial.keep()
                self.assertEqual(len(ground), len(before[0]) + at % 2)

    def test_trials_of_two_grounds(self):
        one, other = Ground(), Ring(9)
        with one.trial() as first, other.trial():
            one.pour(1, 1)
            other.pour(1, 1)
            first.keep()
        self.assertEqual([len(one), len(other)], [1, 0])

    def test_a_full_ground_and_a_full_trough(self):
        forty = Ground.filled(Rain([(at, 1) for at in range(40)]))
        with forty.trial():
            forty.take(3, 1)
            forty.pour(3, 2)
            self.assert_error(Full, {"limit": 40}, forty.pour, 0, 1)
        self.assert_error(Full, {"limit": 40}, forty.pour, 0, 1)
        self.assertEqual(forty.rain(), Rain([(at, 1) for at in range(40)]))
        trough = Trough.filled(0, 4, Rain([(1, 3)]))
        with trough.trial():
            trough.pour(2, 1)
            self.assertEqual(trough.stretches(), ((0, 4),))
        self.assertEqual(trough.stretches(), ((0, 3),))
        self.assert_error(Overfull, {"total": 5}, trough.pour, 0, 2)


class Nested(Case):
    def test_every_way_to_keep_three_trials(self):
        """Each trial is kept by itself, before or after the inner ones, or not; what stays follows from that."""
        for ways in product(("no", "first", "last", "both"), repeat=3):
            for ground in kinds():
                expected = self.run_nested(ground, ways, 0)
                self.assertEqual(ground.changes()[5:], expected)
                self.assertEqual(ground.rain(), Rain([*START, *[(spot, volume) for _, spot, volume in expected]]))

    def run_nested(self, ground, ways, depth):
        """Run the trials from this depth on; return the changes that should stand after them."""
        if depth == len(ways):
            return []
        before = state(ground)
        with ground.trial() as trial:
            if ways[depth] in ("first", "both"):
                trial.keep()
            ground.pour(20, depth + 1)
            inner = self.run_nested(ground, ways, depth + 1)
            ground.pour(30, depth + 1)
            if ways[depth] in ("last", "both"):
                trial.keep()
        if ways[depth] == "no":
            self.assertEqual(state(ground), before)
            return []
        return [("pour", 20, depth + 1), *inner, ("pour", 30, depth + 1)]

    def test_an_outer_one_is_kept_while_an_inner_one_is_open(self):
        for ground, inner_too in beside((False, True)):
            with ground.trial() as outer:
                ground.pour(20, 1)
                with ground.trial() as inner:
                    ground.pour(21, 1)
                    outer.keep()
                    ground.pour(22, 1)
                    if inner_too:
                        inner.keep()
                ground.pour(23, 1)
            spots = [20, 21, 22, 23] if inner_too else [20, 23]
            self.assertEqual(ground.changes()[5:], [("pour", spot, 1) for spot in spots])

    def test_an_inner_one_that_is_kept_is_taken_back_by_the_outer_one(self):
        for ground in kinds():
            before = state(ground)
            with ground.trial():
                with ground.trial() as inner:
                    ground.pour(20, 1)
                    inner.keep()
                self.assertEqual(len(ground), 4)
            self.assertEqual(state(ground), before)

    def test_undo_beyond_the_beginning_of_both_blocks(self):
        for ground in kinds():
            before = state(ground)
            with ground.trial() as outer:
                ground.pour(20, 1)
                middle = state(ground)
                with ground.trial():
                    ground.undo()
                    ground.undo()
                    ground.undo()
                self.assertEqual(state(ground), middle)
                with ground.trial() as inner:
                    ground.undo()
                    ground.undo()
                    inner.keep()
                    outer.keep()
            self.assertEqual(ground.changes(), before[4][:4])

    def test_an_error_ends_all_blocks(self):
        for ground in kinds():
            before = state(ground)
            trials = [ground.trial() for _ in range(3)]
            with self.assertRaises(Stop), trials[0]:
                ground.pour(20, 1)
                with trials[1]:
                    ground.pour(21, 1)
                    trials[1].keep()
                    with trials[2]:
                        ground.pour(22, 1)
                        raise Stop
            self.assertEqual(state(ground), before)
            self.assertEqual([trial.is_open for trial in trials], [False] * 3)

    def test_an_error_that_is_caught_between_the_blocks(self):
        for ground in kinds():
            with ground.trial() as outer:
                ground.pour(20, 1)
                try:
                    with ground.trial():
                        ground.pour(21, 1)
                        raise Stop
                except Stop:
                    ground.pour(22, 1)
                outer.keep()
            self.assertEqual(ground.changes()[5:], [("pour", 20, 1), ("pour", 22, 1)])


class KeepAndOpen(Case):
    def test_keep_outside_of_the_block(self):
        for ground in kinds():
            trial = ground.trial()
            self.assert_error(TrialError, {}, trial.keep)
            with trial:
                ground.pour(20, 1)
            before = state(ground)
            self.assertEqual(len(ground), 3)
            self.assert_error(TrialError, {}, trial.keep)
            self.assertEqual(state(ground), before)

    def test_keep_after_the_block_of_a_kept_trial(self):
        for ground in kinds():
            with ground.trial() as trial:
                trial.keep()
                ground.pour(20, 1)
            self.assert_error(TrialError, {}, trial.keep)
            self.assertEqual(len(ground), 4)

    def test_a_failed_keep_before_the_block_does_not_keep(self):
        for ground in kinds():
            trial = ground.trial()
            self.assert_error(TrialError, {}, trial.keep)
            with trial:
                ground.pour(20, 1)
            self.assertEqual(len(ground), 3)

    def test_twice_in_the_block(self):
        for ground in kinds():
            with ground.trial() as trial:
                ground.pour(20, 1)
                self.assertIs(trial.keep(), None)
                ground.pour(21, 1)
                self.assertIs(trial.keep(), None)
                ground.pour(22, 1)
            self.assertEqual(len(ground), 6)

    def test_keep_after_a_block_that_an_error_ended(self):
        for ground in kinds():
            trial = ground.trial()
            with self.assertRaises(Stop), trial:
                raise Stop
            self.assert_error(TrialError, {}, trial.keep)

    def test_entering_a_second_time(self):
        for ground, kept in beside((False, True)):
            trial = ground.trial()
            with trial:
                ground.pour(20, 1)
                if kept:
                    trial.keep()
            before = state(ground)
            for _ in range(2):
                entered = False
                with self.assertRaises(TrialError), trial:
                    entered = True
                self.assertIs(entered, False)
                self.assertIs(trial.is_open, False)
                self.assertEqual(state(ground), before)
            self.assert_error(TrialError, {}, within, trial, lambda held: self.fail())

    def test_entering_it_in_its_own_block(self):
        for ground in kinds():
            before = state(ground)
            trial = ground.trial()
            with trial:
                ground.pour(20, 1)
                with self.assertRaises(TrialError), trial:
                    self.fail()
                self.assertIs(trial.is_open, True)
                self.assertEqual(len(ground), 4)
            self.assertEqual(state(ground), before)
            trial = ground.trial()
            with trial:
                ground.pour(20, 1)
                self.assert_error(TrialError, {}, within, trial, len)
                trial.keep()
            self.assertEqual(len(ground), 4)

    def test_is_open(self):
        for ground in kinds():
            trial = ground.trial()
            self.assertIs(trial.is_open, False)
            with trial:
                self.assertIs(trial.is_open, True)
                with ground.trial() as inner:
                    self.assertEqual([trial.is_open, inner.is_open], [True, True])
                    trial.keep()
                    inner.keep()
                    self.assertEqual([trial.is_open, inner.is_open], [True, True])
                self.assertEqual([trial.is_open, inner.is_open], [True, False])
            self.assertEqual([trial.is_open, inner.is_open], [False, False])


class Within(Case):
    def test_the_result_and_what_is_handed_in(self):
        for ground in kinds():
            before = state(ground)
            trial, seen = ground.trial(), []

            def deed(held):
                seen.append((held, held.is_open))
                ground.pour(20, 1)
                return ground.stretches()

            result = within(trial, deed)
            self.assertEqual(seen, [(trial, True)])
            self.assertIs(trial.is_open, False)
            self.assertEqual(result[-1], (Ratio(39, 2), Ratio(41, 2)))
            self.assertEqual(state(ground), before)

    def test_kept(self):
        for ground in kinds():
            def deed(held):
                held.keep()
                ground.pour(20, 1)

            self.assertIs(within(deed=deed, trial=ground.trial()), None)
            self.assertEqual(len(ground), 4)

    def test_nested_and_with_any_result(self):
        for ground in kinds():
            for value in (0, None, (), [], "text", Ratio(1, 3), Stop):
                self.assertIs(within(ground.trial(), lambda held: within(ground.trial(), lambda inner: value)), value)
            self.assertIs(within(ground.trial(), type(ground.trial()).keep), None)

    def test_an_error(self):
        for ground in kinds():
            before = state(ground)

            def deed(held):
                ground.pour(20, 1)
                raise Stop

            trial = ground.trial()
            with self.assertRaises(Stop):
                within(trial, deed)
            self.assertEqual(state(ground), before)
            self.assertIs(trial.is_open, False)


class Attempts(Case):
    def test_pour_take_and_undo(self):
        for ground, other in zip(kinds(), kinds()):
            steps = [("pour", 20, 1), ("take", 1, 2), ("undo",), ("undo",), ("pour", 5, Ratio(1, 3)), ("undo",)]
            found = attempt(ground, steps)
            self.assertIs(type(found), list)
            expected = []
            for word, *details in steps:
                getattr(other, word)(*details)
                expected.append(other.stretches())
            self.assertEqual(found, expected)
            self.assertTrue(all(type(item) is tuple for item in found))
            self.assertEqual(state(ground), state(other))

    def test_undo_of_nothing(self):
        self.assertEqual(attempt(Ground(), [("undo",), ("undo",)]), [(), ()])
        self.assertEqual(attempt(Ring(3), [("pour", 4, 1), ("undo",), ("undo",)]), [
            ((Ratio(1, 2), Ratio(3, 2)),), (), ()])

    def test_no_steps(self):
        for ground, steps in beside(([], ())):
            before = state(ground)
            self.assertEqual(attempt(ground, steps), [])
            self.assertEqual(state(ground), before)

    def test_a_trial(self):
        for kept in ("no", "first", "last", "both"):
            for ground, make in beside((list, tuple)):
                before = state(ground)
                inner = make([("pour", 20, 1), ("take", 1, 2)])
                (made, after, opened), = attempt(ground, make([("trial", kept, inner)]))
                self.assertIs(type(made), list)
                self.assertEqual(opened, (False, True, False))
                self.assertTrue(all(type(value) is bool for value in opened))
                self.assertEqual(after, ground.stretches())
                self.assertEqual(made[0], (*before[2], (Ratio(39, 2), Ratio(41, 2))))
                self.assertEqual(made[1], made[0][1:])
                if kept == "no":
                    self.assertEqual(state(ground), before)
                else:
                    self.assertEqual(ground.changes()[5:], [("pour", 20, 1), ("take", 1, 2)])
                    self.assertEqual(after, made[1])

    def test_the_item_of_a_trial_is_a_triple(self):
        item, = attempt(Ground(), [("trial", "no", ())])
        self.assertEqual(item, ([], (), (False, True, False)))
        self.assertIs(type(item), tuple)

    def test_nested_three_deep(self):
        for ways in product(("no", "first", "last", "both"), repeat=3):
            ground, one, two, three = Ground(), *ways
            steps = [("pour", 0, 1), ("trial", one, [("pour", 10, 1), ("trial", two, (("pour", 20, 1), (
                "trial", three, [("pour", 30, 1)]), ("pour", 40, 1))), ("pour", 50, 1)]), ("pour", 60, 1)]
            given = copy.deepcopy(steps)
            found = attempt(ground, steps)
            spots = [0, 10, 20, 30, 40, 50, 60]
            if three == "no":
                spots.remove(30)
            if two == "no":
                spots = [spot for spot in spots if spot not in (20, 30, 40)]
            if one == "no":
                spots = [0, 60]
            self.assertEqual(ground.changes(), [("pour", spot, 1) for spot in spots])
            self.assertEqual(found[-1], ground.stretches())
            self.assertEqual(len(found), 3)
            inner = found[1][0][1]
            self.assertEqual(inner[2], (False, True, False))
            self.assertEqual([len(found[1][0]), len(inner[0]), len(inner[0][1][0])], [3, 3, 1])
            self.assertEqual(steps, given)

    def test_keep_by_a_step(self):
        for outs in product((0, 1, 2, None), repeat=3):
            ground, kept = Ground(), set()
            steps = [("pour", 30, 1)]
            for depth in (2, 1, 0):
                out = outs[depth]
                if out is not None and out <= depth:
                    kept.add(depth - out)
                    steps = [*steps, ("keep", out)]
                steps = [("pour", 10 * depth, 1), ("trial", "no", steps), ("pour", 10 * depth + 5, 1)]
            found = attempt(ground, steps)
            standing = [depth in kept for depth in range(3)]
            expected = [0, 5]
            if standing[0]:
                expected = [0, 10, 15, 5]
                if standing[1]:
                    expected = [0, 10, 20, 25, 15, 5]
                    if standing[2]:
                        expected = [0, 10, 20, 30, 25, 15, 5]
            self.assertEqual(ground.changes(), [("pour", spot, 1) for spot in expected])
            self.assertEqual(found[-1], ground.stretches())

    def test_the_item_of_a_keep_is_the_stretches(self):
        ground = Ground()
        steps = [("pour", 5, 2), ("keep", 0), ("pour", 5, 2), ("keep", 0)]
        (made, after, _), = attempt(ground, [("trial", "no", steps)])
        self.assertEqual(made, [((4, 6),), ((4, 6),), ((3, 7),), ((3, 7),)])
        self.assertEqual(after, ((3, 7),))

    def test_keep_of_a_block_that_is_not_there(self):
        for ground in kinds():
            before = state(ground)
            for out in (0, 1, 2, 5):
                self.assert_error(TrialError, {}, attempt, ground, [("keep", out)])
                self.assertEqual(state(ground), before)
            for out in (1, 2, 40):
                steps = [("trial", "first", [("trial", "no", [("pour", 20, 1)]), ("keep", out)])]
                self.assert_error(TrialError, {}, attempt, ground, steps)
                self.assertEqual(state(ground), before)
            steps = [("trial", "no", [("trial", "no", [("trial", "no", [("keep", 3)])])])]
            self.assert_error(TrialError, {}, attempt, ground, steps)

    def test_blocks_outside_of_the_call_do_not_count(self):
        for ground in kinds():
            before = state(ground)
            with ground.trial() as trial:
                self.assert_error(TrialError, {}, attempt, ground, [("keep", 0)])
                self.assert_error(TrialError, {}, attempt, ground, [("trial", "no", [("keep", 1)])])
                self.assertIs(trial.is_open, True)
                attempt(ground, [("pour", 20, 1)])
                self.assertEqual(len(ground), 4)
            self.assertEqual(state(ground), before)

    def test_a_block_that_has_ended_does_not_count(self):
        steps = [("trial", "no", [("trial", "last", []), ("keep", 1)])]
        self.assert_error(TrialError, {}, attempt, Ground(), steps)

    def test_joined(self):
        for ground in kinds():
            found = attempt(ground, [("joined", 0, 2), ("pour", 2, 3), ("joined", 3, 0), ("joined", 1, 1)])
            self.assert_ratio(found[0], fraction(joined_from(Rain(START), 0, 2)))
            self.assert_ratio(found[2], fraction(joined_from(Rain([*START, (2, 3)]), 3, 0)))
            self.assert_ratio(found[3], 0)
            self.assertEqual(found[1], ground.stretches())
        ring = Ring(10)
        found = attempt(ring, [("pour", 19, 1), ("pour", -10, 1), ("joined", 0, 1)])
        self.assert_ratio(found[2], 9)

    def test_joined_of_unknown_indexes(self):
        for ground in kinds():
            before = state(ground)
            for one, other, wrong in [(-1, 0, -1), (0, 3, 3), (3, -1, 3), (-1, 3, -1), (10 ** 9, 0, 10 ** 9)]:
                self.assert_error(UnknownIndex, {"index": wrong}, attempt, ground, [("joined", one, other)])
                inside = [("trial", "no", [("pour", 0, 1), ("undo",), ("joined", one, other)])]
                self.assert_error(UnknownIndex, {"index": wrong}, attempt, ground, inside)
                self.assertEqual(state(ground), before)

    def test_late_and_again(self):
        for ground, word in beside(("late", "again")):
            before = state(ground)
            self.assert_error(TrialError, {}, attempt, ground, [(word,)])
            self.assertEqual(state(ground), before)
            self.assert_error(TrialError, {}, attempt, ground, [("trial", "no", [("pour", 20, 1), (word,)])])
            self.assertEqual(state(ground), before)
            deep = [("trial", "no", [("trial", "no", [("trial", "no", [("pour", 20, 1), (word,)])])])]
            self.assert_error(TrialError, {}, attempt, ground, deep)
            self.assertEqual(state(ground), before)
            self.assert_error(TrialError, {}, attempt, ground, [("trial", "first", [("pour", 20, 1), (word,)])])
            self.assertEqual(ground.changes()[5:], [("pour", 20, 1)])

    def test_an_error_ends_all_blocks_and_the_steps_before_them_stand(self):
        for ground, step, kind, attributes in [
            (Ground(), ("pour", 1, 0), InvalidNumber, {"value": 0}),
            (Ground(), ("take", 1, 7), MissingDrop, {"spot": 1, "amount": 7}),
            (Ring(10), ("take", 11, 7), MissingDrop, {"spot": 1, "amount": 7}),
            (Trough(0, 10), ("pour", 11, 1), OutOfGround, {"spot": 11}),
            (Trough(0, 10), ("pour", 1, 10), Overfull, {"total": 12}),
            (Ground(), ("joined", 0, 2), UnknownIndex, {"index": 2}),
            (Ground.filled(Rain([(at, 1) for at in range(38)])), ("pour", 1, 1), Full, {"limit": 40}),
        ]:
            start = ground.changes()
            steps = [("pour", 3, 1), ("trial", "no", [("trial", "last", [("pour", 4, 1), step]), ("pour", 5, 1)])]
            self.assert_error(kind, attributes, attempt, ground, steps)
            self.assertEqual(ground.changes(), [*start, ("pour", 3, 1)])

    def test_kept_last_is_not_reached_when_a_step_raises(self):
        for kept, many in [("no", 0), ("last", 0), ("first", 1), ("both", 1)]:
            ground = Ground()
            steps = [("pour", 1, 1), ("late",), ("pour", 2, 1)]
            self.assert_error(TrialError, {}, attempt, ground, [("trial", kept, steps)])
            self.assertEqual(len(ground), many)

    def test_60_steps(self):
        ground = Ground()
        found = attempt(ground, [("pour", at, 1) if at < 40 else ("undo",) for at in range(60)])
        self.assertEqual([len(found), len(ground)], [60, 20])
        self.assertEqual(found[39], ((Ratio(-1, 2), Ratio(79, 2)),))

    def test_by_name_and_a_new_list_each_time(self):
        ground = Ground()
        steps = [("trial", "no", [("pour", 1, 1)])]
        one, other = attempt(steps=steps, ground=ground), attempt(ground, steps)
        self.assertEqual(one, other)
        self.assertIsNot(one, other)
        self.assertIsNot(one[0][0], other[0][0])
        one[0][0].clear()
        one.clear()
        self.assertEqual(attempt(ground, steps), other)
        self.assertEqual(steps, [("trial", "no", [("pour", 1, 1)])])

    def test_on_a_ring_and_in_a_trough(self):
        ring, trough = Ring(10), Trough(0, 10)
        steps = [("pour", 10, 2), ("trial", "no", [("pour", 0, 8)]), ("take", 10, 2)]
        self.assertEqual(attempt(ring, steps), [
            ((9, 11),), ([((0, 10),)], ((9, 11),), (False, True, False)), ()])
        self.assertEqual(attempt(trough, steps), [
            ((8, 10),), ([((0, 10),)], ((8, 10),), (False, True, False)), ()])


if __name__ == "__main__":
    unittest.main()
