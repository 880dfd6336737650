"""Points [35] and [36]: a desk."""

import unittest
from poolsmeet.desk import Desk
from poolsmeet.errors import Full, InvalidCommand, InvalidNumber, MissingDrop, OutOfGround, Overfull, PoolError
from poolsmeet.grounds import Ground, Ring, Trough
from poolsmeet.rains import Rain
from poolsmeet.ratios import Ratio
from support import Case, stream

FORMS = {
    "line": 0, "trough": 2, "ring": 1, "pour": 2, "take": 2, "undo": 0, "volume": 0, "dry": 0, "wet": 1, "show": 0,
}


def desk(*commands):
    made = Desk()
    for command in commands:
        made.say(command)
    return made


def seen(made):
    """The answers to all commands that change nothing."""
    return [made.say("volume"), made.say("dry"), made.say("show"), made.say("wet 1"), made.say("try 1 1"), len(made)]


def written(stretches):
    return " , ".join(f"{left} {right}" for left, right in stretches) or "none"


def desks():
    """A desk with some drops, for each kind of ground, with a change that was taken back."""
    return [desk(first, "pour 1 2", "pour 4 1/2", "pour 9 1", "undo") for first in ("line", "trough 0 10", "ring 10")]


class Answers(Case):
    def test_a_new_desk(self):
        made = Desk()
        self.assertEqual(len(made), 0)
        self.assertEqual([made.say(word) for word in ("volume", "dry", "show", "undo", "wet 0", "try 0 2")],
                         ["0", "endless", "none", "nothing", "no", "-1 1"])
        self.assertEqual(len(made), 0)

    def test_new_grounds(self):
        for made in desks():
            for command, dry in [
                ("line", "endless"), ("trough -1/2 4", "9/2"), ("ring 7/3", "7/3"), ("line", "endless"),
                ("ring 5", "5"), ("trough 0 1", "1"),
            ]:
                self.assertEqual(made.say(command), command.split()[0])
                self.assertEqual([len(made), made.say("volume"), made.say("show"), made.say("dry"), made.say("undo")],
                                 [0, "0", "none", dry, "nothing"])
                made.say("pour 0 1/3")

    def test_pour_and_take_and_undo(self):
        for first in ("line", "trough 0 10", "ring 10"):
            made = desk(first)
            answers = [made.say(command) for command in (
                "pour 1 2", "pour 5 1/2", "pour 1 2", "take 1 2", "take 5 1/2", "undo", "undo", "undo", "undo", "undo",
                "undo", "pour 3 1")]
            self.assertEqual(answers, ["1", "2", "3", "2", "1", "undone", "undone", "undone", "undone", "undone",
                                       "nothing", "1"])
            self.assertTrue(all(type(answer) is str for answer in answers))

    def test_volume_and_dry(self):
        made = desk("trough 0 10", "pour 1 2", "pour 1 1/3")
        self.assertEqual([made.say("volume"), made.say("dry")], ["7/3", "23/3"])
        made.say("pour 9 23/3")
        self.assertEqual([made.say("volume"), made.say("dry")], ["10", "0"])
        made = desk("ring 10", "pour 25 4")
        self.assertEqual([made.say("volume"), made.say("dry")], ["4", "6"])
        made.say("pour 0 60")
        self.assertEqual([made.say("volume"), made.say("dry")], ["64", "0"])
        made = desk("line", "pour -3/2 4/5")
        self.assertEqual([made.say("volume"), made.say("dry")], ["4/5", "endless"])

    def test_wet(self):
        made = desk("ring 10", "pour 9 4")
        answers = [made.say(f"wet {spot}") for spot in ("7", "11", "1", "2", "-3", "-10", "101/2", "13/2", "1000", "0")]
        self.assertEqual(answers, ["yes", "yes", "yes", "no", "yes", "yes", "yes", "no", "yes", "yes"])
        made = desk("trough 0 10", "pour 0 4")
        self.assertEqual([made.say(f"wet {spot}") for spot in ("0", "4", "401/100", "10")], ["yes", "yes", "no", "no"])

    def test_show(self):
        made = desk("pour 0 2", "pour -9 1", "pour 20 1/3")
        self.assertEqual(made.say("show"), "-19/2 -17/2 , -1 1 , 119/6 121/6")
        self.assertEqual(desk("pour 0 2").say("show"), "-1 1")
        self.assertEqual(desk("ring 3", "pour 0 2").say("show"), "2 4")
        self.assertEqual(desk("ring 3", "pour 0 3").say("show"), "0 3")

    def test_try_leaves_no_trace(self):
        for made in desks():
            before = seen(made)
            self.assertEqual(made.say("try 7 1"), "0 2 , 15/4 17/4 , 13/2 15/2")
            self.assertEqual(made.say("try 7 1 3 1"), "0 2 , 5/2 7/2 , 15/4 17/4 , 13/2 15/2")
            self.assertEqual(made.say("try 5 4"), made.say("try 5 2 5 2"))
            self.assertEqual(seen(made), before)
            self.assertEqual(made.say("undo"), "undone")
            self.assertEqual(len(made), 1)

    def test_try_is_as_if_the_drops_were_poured(self):
        for first in ("line", "trough 0 40", "ring 40"):
            made, other = desk(first, "pour 1 3", "pour 8 1"), desk(first, "pour 1 3", "pour 8 1")
            pairs = ["5 1", "6 1/2", "30 4", "31 4", "1/3 2/7"]
            for many in range(1, len(pairs) + 1):
                other.say(f"pour {pairs[many - 1]}")
                self.assertEqual(made.say("try " + " ".join(pairs[:many])), other.say("show"))
                self.assertEqual(len(made), 2)

    def test_try_that_raises(self):
        made = desk("trough 0 10", "pour 1 2")
        before = seen(made)
        for command, kind, attributes in [
            ("try 3 1 4 0", InvalidNumber, {"value": 0}), ("try 3 1 11 1", OutOfGround, {"spot": 11}),
            ("try 3 1 4 8", Overfull, {"total": 11}), ("try 3 1 4 -1/2 11 1", InvalidNumber, {"value": Ratio(-1, 2)}),
        ]:
            self.assert_error(kind, attributes, made.say, command)
            self.assertEqual(seen(made), before)
        full = desk(*[f"pour {at} 1" for at in range(39)])
        before = seen(full)
        self.assertEqual(full.say("try 0 1"), "-59/40 1541/40")
        self.assert_error(Full, {"limit": 40}, full.say, "try 0 1 0 1")
        self.assert_error(Full, {"limit": 40}, full.say, "try " + " ".join(["5 1/2"] * 200))
        self.assertEqual(seen(full), before)
        self.assertEqual(full.say("undo"), "undone")

    def test_long_commands(self):
        made = Desk()
        command = "try" + " 1 1" * 40
        self.assertEqual(made.say(command), "-19 21")
        big = "9" * 900
        self.assertEqual(made.say(f"pour {big} 1/{big}"), "1")
        self.assertEqual(made.say(f"wet {big}"), "yes")
        self.assertEqual(made.say("volume"), f"1/{big}")

    def test_by_name(self):
        made = Desk()
        self.assertEqual([made.say(command="pour 1 1"), made.say(command="show")], ["1", "1/2 3/2"])

    def test_len_is_the_number_of_drops(self):
        made = Desk()
        for command, many in [
            ("pour 1 1", 1), ("pour 1 1", 2), ("try 5 5", 2), ("take 1 1", 1), ("undo", 2), ("ring 5", 0),
        ]:
            made.say(command)
            self.assertEqual(len(made), many)

    def test_two_desks(self):
        one, other = Desk(), Desk()
        one.say("pour 1 1")
        self.assertEqual([len(one), len(other)], [1, 0])

    def test_against_grounds(self):
        """Many commands in an order without a plan, against a ground that is changed in the same way."""
        for make, first in [(Ground, "line"), (lambda: Trough(0, 30), "trough 0 30"), (lambda: Ring(30), "ring 30")]:
            made, ground, numbers = desk(first), make(), stream(len(first))
            for _ in range(150):
                spot, volume = Ratio(next(numbers) % 70, 2), Ratio(next(numbers) % 6, 1 + next(numbers) % 3)
                word = ("pour", "pour", "take", "undo")[next(numbers) % 4]
                command = word if word == "undo" else f"{word} {spot} {volume}"
                arguments = [] if word == "undo" else [spot, volume]
                try:
                    result = getattr(ground, word)(*arguments)
                except PoolError as error:
                    self.assert_error(type(error), vars(error), made.say, command)
                else:
                    answer = {True: "undone", False: "nothing", None: str(len(ground))}[result]
                    self.assertEqual(made.say(command), answer)
                dry = ground.dry()
                self.assertEqual(made.say("show"), written(ground.stretches()))
                self.assertEqual(made.say("volume"), str(ground.volume))
                self.assertEqual(made.say("dry"), "endless" if dry is None else str(dry))
                self.assertEqual(len(made), len(ground))
                self.assertEqual(made.say("wet 17/3"), "yes" if ground.is_wet(Ratio(17, 3)) else "no")

    def test_the_example_of_the_document(self):
        d = Desk()
        commands = ["trough 0 10", "pour 1 4", "pour 9 1", "show", "try 5 2 6 2", "dry"]
        self.assertEqual([d.say(command) for command in commands],
                         ["trough", "1", "2", "0 4 , 17/2 19/2", "0 8 , 17/2 19/2", "5"])


class WrongCommands(Case):
    def assert_invalid(self, *commands):
        for made in desks():
            before = seen(made)
            for command in commands:
                with self.subTest(command):
                    self.assert_error(InvalidCommand, {}, made.say, command)
            self.assertEqual(seen(made), before)
            self.assertEqual(made.say("undo"), "undone")
            self.assertEqual(len(made), 1)

    def test_other_first_words(self):
        self.assert_invalid(
            "", " ", "1", "1 2", "help", "lines", "lin", "pou 1 1", "drop 1 1", "ground", "keep", "len", "-", "trial",
            "poured 1 1", "repr", "changes", "rain", "is_wet 1", "stretches", "quit", "pour,1,1", "trough(0,10)", "say",
            "__init__", "None", "0",
        )

    def test_capitals(self):
        for word, many in [*FORMS.items(), ("try", 2)]:
            rest = " 1 2"[:2 * many]
            self.assert_invalid(word.upper() + rest, word.capitalize() + rest, word[:-1] + word[-1].upper() + rest)

    def test_a_wrong_number_of_words(self):
        for word, many in FORMS.items():
            for other in range(5):
                if other != many:
                    self.assert_invalid(" ".join([word, *"1234"[:other]]))

    def test_try_with_an_odd_number_of_words_or_none(self):
        self.assert_invalid("try", *["try" + " 1" * many for many in range(1, 42, 2)])

    def test_empty_words_and_newlines(self):
        for word, many in [*FORMS.items(), ("try", 2)]:
            command = " ".join([word, *"23"[:many]])
            self.assert_invalid(" " + command, command + " ", "\n" + command, command + "\n", "  " + command,
                                command + "  ", command + "\n ", command + " \n", command + "\n" + command)
            if many:
                self.assert_invalid(command.replace(" ", "  "), command.replace(" ", "\n"), command.replace(" ", "\t"),
                                    command.replace(" ", "   "), command.replace(" ", " \n"), command.replace(" ", ""))
        self.assert_invalid("pour 1  2", "try 1 2  3 4", "try 1 2 3 4 ", "trough 0\n 10", "wet \n1", "wet 1\n2")

    def test_words_that_are_no_texts_of_numbers(self):
        wrong = [
            "x", "-", "+1", "-0", "00", "01", "1.0", "1e3", "1/1", "2/4", "1/0", "0/1", "0/2", "1/-2", "--1", "1/2/3",
            "/2", "1/", "1_0", "one", "0x1", "(1)", "1,", "3/03", "-1/01", "1" * 1001, "1/" + "3" * 1001, "1/2-",
            "None",
        ]
        for text in wrong:
            self.assert_invalid(
                f"ring {text}", f"wet {text}", f"pour {text} 1", f"pour 1 {text}", f"take {text} 1", f"take 1 {text}",
                f"trough {text} 1", f"trough 1 {text}", f"try {text} 1", f"try 1 {text}", f"try 1 1 {text} 1",
                f"try 1 1 1 {text}",
            )

    def test_they_come_before_the_other_errors(self):
        self.assert_invalid("pour x 0", "pour 0 x", "take 1 2 3", "trough 5 4 3", "trough 5 x", "ring 0 0", "ring -1 x",
                            "try 1 0 x 1", "try 1 0 1", "try 1 -1 1 01", "wet 99 99")

    def assert_refused(self, made, command, kind, **attributes):
        """The command raises this error and changes nothing."""
        before = seen(made)
        self.assert_error(kind, attributes, made.say, command)
        self.assertEqual(seen(made), before)
        self.assertEqual(len(made), 2)

    def test_errors_on_each_kind_of_ground(self):
        for made in desks():
            for command, value in [
                ("pour 1 0", 0), ("pour 1 -1/2", Ratio(-1, 2)), ("trough 4 4", 4), ("trough 1/2 1/3", Ratio(1, 3)),
                ("trough 0 -1", -1), ("ring 0", 0), ("ring -7/2", Ratio(-7, 2)), ("try 1 0", 0), ("try 1 1 1 -3", -3),
                ("pour 11 0", 0),
            ]:
                self.assert_refused(made, command, InvalidNumber, value=value)
            for command, spot, amount in [
                ("take 1 1", 1, 1), ("take 2 2", 2, 2), ("take 1 -2", 1, -2), ("take 1/2 0", Ratio(1, 2), 0),
            ]:
                self.assert_refused(made, command, MissingDrop, spot=spot, amount=amount)

    def test_errors_in_a_trough_and_on_a_ring(self):
        line, trough, ring = desks()
        self.assert_refused(trough, "pour 11 1", OutOfGround, spot=11)
        self.assert_refused(trough, "pour -1/7 1", OutOfGround, spot=Ratio(-1, 7))
        self.assert_refused(trough, "wet 21/2", OutOfGround, spot=Ratio(21, 2))
        self.assert_refused(trough, "pour 1 8", Overfull, total=Ratio(21, 2))
        self.assert_refused(trough, "take 11 1", MissingDrop, spot=11, amount=1)
        self.assert_refused(ring, "take 21 3", MissingDrop, spot=1, amount=3)
        self.assertEqual([line.say("pour 11 8"), ring.say("pour 11 8")], ["3", "3"])

    def test_a_full_ground(self):
        for first in ("line", "trough 0 50", "ring 50"):
            made = desk(first, *[f"pour {at} 1" for at in range(40)])
            self.assert_error(Full, {"limit": 40}, made.say, "pour 1 1")
            self.assertEqual([len(made), made.say("volume")], [40, "40"])
            self.assert_error(Full, {"limit": 40}, made.say, "try 1 1")
            self.assertEqual([made.say("take 7 1"), made.say("pour 7 1"), len(made)], ["39", "40", 40])

    def test_equal_to_nothing_of_another_kind(self):
        self.assert_equals_none(Desk(), [0, 1, True, None, "", "none", (), [], Ground(), Rain(), Desk, object()])


if __name__ == "__main__":
    unittest.main()
