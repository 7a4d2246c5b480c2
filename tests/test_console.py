"""Promises 2, 17, 18 and 19: the console."""

import itertools
import random
import unittest

from evenlead.answers import answers
from evenlead.comparing import parting
from evenlead.console import Console
from evenlead.counting import how_many
from evenlead.errors import InvalidCommand, NothingToUndo
from evenlead.instep import stepper_of
from evenlead.joining import both, either, turned, without
from evenlead.leads import is_even
from tests.oracles import texts_of
from tests.test_instep import CAUGHT_UP, EVEN, FOUR_AHEAD, UNEVEN
from tests.values import MUTE, NONE_TOLD, ODD_VALUES, ONE, SHIFT, STILL, WIDE

PACERS = [*EVEN[:40], *EVEN[-20:], ONE, SHIFT, STILL, MUTE, FOUR_AHEAD, CAUGHT_UP]
JOINS = {"keep": lambda _, stepper: stepper, "join": either, "cut": both, "less": without}
LEFTS = ("-", "a", "b", "ab", "bba", "c")


def command_of(head, pacer):
    return f"{head} {str(pacer)}".replace("\n", ";")


def word_of(text):
    return text or "-"


def text_of(word):
    return "" if word == "-" else word


def told_by_console(console):
    """What a console answers to questions."""
    pairs = itertools.product(LEFTS, repeat=2)
    commands = [f"is {left} {right}" for left, right in pairs] + [f"answers {left}" for left in LEFTS]
    return [console.run(command) for command in (*commands, "first", "many 0", "many 1", "many 3", "many 60")]


def told_by_stepper(stepper):
    """The answers that are due where this stepper is kept."""
    pairs = itertools.product(LEFTS, repeat=2)
    due = ["yes" if stepper.tells(text_of(left), text_of(right)) else "no" for left, right in pairs]
    due += [" ".join(word_of(text) for text in answers(stepper, text_of(left))) or "none" for left in LEFTS]
    first = parting(stepper, NONE_TOLD)
    due.append("none" if first is None else f"{word_of(first[0])} {word_of(first[1])}")
    return due + [str(how_many(stepper, length)) for length in (0, 1, 3, 60)]


class CommandTest(unittest.TestCase):
    def test_at_first_it_tells_nothing(self):
        self.assertEqual(told_by_console(Console()), told_by_stepper(NONE_TOLD))
        for command in ("answers -", "first"):
            self.assertEqual(Console().run(command), "none")
        self.assertEqual(Console().run("is - -"), "no")
        self.assertEqual(Console().run("many 0"), "0")
        self.assertEqual(Console().run("turn"), "1")

    def test_example(self):
        console = Console()
        self.assertEqual(console.run("keep pacer 2;begins 0;ends 0;move 0 a - 1;move 1 - b 0"), "1")
        self.assertEqual(console.run("is aa bb"), "yes")
        self.assertEqual(console.run("first"), "- -")
        self.assertEqual(console.run("join pacer 1;begins 0;ends 0;move 0 a bb 0"), "uneven")

    def test_each_question(self):
        console = Console()
        self.assertEqual(console.run(command_of("keep", SHIFT)), "3")
        self.assertEqual(console.run("is ba aba"), "yes")
        self.assertEqual(console.run("is aba ba"), "no")
        self.assertEqual(console.run("is - a"), "yes")
        self.assertEqual(console.run("is - -"), "no")
        self.assertEqual(console.run("is z -"), "no")
        self.assertEqual(console.run("answers ba"), "aba")
        self.assertEqual(console.run("answers -"), "a")
        self.assertEqual(console.run("answers c"), "none")
        self.assertEqual(console.run("first"), "- a")
        self.assertEqual(console.run("many 3"), "4")
        self.assertEqual(console.run("many 0"), "0")
        self.assertEqual(console.run("many 60"), str(2**59))
        self.assertEqual(console.run("turn"), "3")
        self.assertEqual(console.run("first"), "a -")
        self.assertEqual(console.run("answers aba"), "ba")
        self.assertEqual(console.run("answers a"), "-")
        self.assertEqual(console.run("join pacer 1;begins 0;ends 0;move 0 a b 0;move 0 a cc 0"), "uneven")
        self.assertEqual(console.run("join pacer 2;begins 0;ends 1;move 0 a b 1;move 0 a cc 1;move 0 a - 1"), "6")
        self.assertEqual(console.run("answers a"), "- b cc")

    def test_each_answer_of_kept_pacers(self):
        for pacer in PACERS:
            console = Console()
            stepper = stepper_of(pacer)
            self.assertEqual(console.run(command_of("keep", pacer)), str(len(stepper)))
            self.assertEqual(told_by_console(console), told_by_stepper(stepper))
            self.assertEqual(console.run("turn"), str(len(turned(stepper))))
            self.assertEqual(told_by_console(console), told_by_stepper(turned(stepper)))

    def test_join_cut_less(self):
        for one, other in zip(PACERS, PACERS[1:] + PACERS[:1]):
            for head in ("keep", "join", "cut", "less"):
                console = Console()
                console.run(command_of("keep", one))
                expected = JOINS[head](stepper_of(one), stepper_of(other))
                self.assertEqual(console.run(command_of(head, other)), str(len(expected)))
                self.assertEqual(told_by_console(console), told_by_stepper(expected))
                self.assertEqual(console.run("undo"), str(len(stepper_of(one))))
                self.assertEqual(told_by_console(console), told_by_stepper(stepper_of(one)))

    def test_less_takes_away_what_the_pacer_tells(self):
        console = Console()
        console.run("keep pacer 1;begins 0;ends 0;move 0 a a 0;move 0 b b 0")
        self.assertEqual(console.run("less pacer 1;begins 0;ends 0;move 0 a a 0"), "2")
        self.assertEqual(console.run("first"), "b b")
        self.assertEqual(console.run("many 2"), "3")
        self.assertEqual(console.run("cut pacer 1;begins 0;ends 0;move 0 ba ba 0"), "3")
        self.assertEqual(console.run("first"), "ba ba")
        self.assertEqual(console.run("less pacer 1;begins 0;ends 0;move 0 ba ba 0"), "1")
        self.assertEqual(console.run("first"), "none")

    def test_uneven_pacers_change_nothing(self):
        console = Console()
        console.run(command_of("keep", SHIFT))
        told = told_by_console(console)
        for pacer in (WIDE, *UNEVEN[:10]):
            for head in JOINS:
                self.assertEqual(console.run(command_of(head, pacer)), "uneven")
                self.assertEqual(told_by_console(console), told)
        self.assertEqual(console.run("undo"), "1")
        self.assertEqual(told_by_console(console), told_by_stepper(NONE_TOLD))
        with self.assertRaises(NothingToUndo):
            console.run("undo")

    def test_pacers_with_empty_words_and_without_begins(self):
        console = Console()
        self.assertEqual(console.run("keep pacer 1;begins -;ends -"), "1")
        self.assertEqual(console.run("first"), "none")
        self.assertEqual(console.run("keep pacer 2;begins 0;ends 0 1;move 0 - - 1;move 1 a - 0"), "uneven")
        self.assertEqual(console.run("keep pacer 2;begins 0 1;ends 0;move 0 - - 1;move 1 ab - 0"), "uneven")
        self.assertEqual(console.run("keep pacer 2;begins 0 1;ends 1;move 0 - - 1;move 0 ab - 1"), "3")
        self.assertEqual(console.run("answers ab"), "-")
        self.assertEqual(console.run("is ab -"), "yes")


class UndoTest(unittest.TestCase):
    def test_behind_which_the_same_was_kept(self):
        console = Console()
        for head in ("keep", "keep", "join", "cut"):
            self.assertEqual(console.run(command_of(head, ONE)), "1")
        self.assertEqual(console.run(command_of("less", MUTE)), "1")
        for _ in range(4):
            self.assertEqual(console.run("undo"), "1")
            self.assertEqual(console.run("is a b"), "yes")
        self.assertEqual(console.run("undo"), "1")
        self.assertEqual(console.run("is a b"), "no")
        with self.assertRaises(NothingToUndo):
            console.run("undo")

    def test_beyond_what_there_is(self):
        console = Console()
        for _ in range(3):
            with self.assertRaises(NothingToUndo):
                console.run("undo")
            self.assertEqual(told_by_console(console), told_by_stepper(NONE_TOLD))
        console.run("turn")
        self.assertEqual(console.run("undo"), "1")
        with self.assertRaises(NothingToUndo):
            console.run("undo")

    def test_questions_and_refused_ones_are_not_taken_back(self):
        console = Console()
        console.run(command_of("keep", ONE))
        console.run(command_of("keep", SHIFT))
        told_by_console(console)
        for command in ("keep pacer", "turn ", "undo 1", "many 61"):
            with self.assertRaises(InvalidCommand):
                console.run(command)
        console.run(command_of("join", WIDE))
        self.assertEqual(console.run("undo"), "1")
        self.assertEqual(told_by_console(console), told_by_stepper(stepper_of(ONE)))

    def test_undo_and_on(self):
        console = Console()
        console.run(command_of("keep", SHIFT))
        console.run("turn")
        console.run("undo")
        console.run(command_of("join", ONE))
        console.run("undo")
        self.assertEqual(told_by_console(console), told_by_stepper(stepper_of(SHIFT)))
        console.run("undo")
        self.assertEqual(told_by_console(console), told_by_stepper(NONE_TOLD))

    def test_drawn_commands_beside_the_functions(self):
        draw = random.Random(4)
        for _ in range(25):
            console = Console()
            kept, earlier = NONE_TOLD, []
            for _ in range(12):
                pacer, head = draw.choice((*PACERS, WIDE)), draw.choice((*JOINS, "turn", "undo", "undo"))
                command = head if head in ("turn", "undo") else command_of(head, pacer)
                if head == "undo" and not earlier:
                    with self.assertRaises(NothingToUndo):
                        console.run(command)
                    continue
                result = console.run(command)
                if head == "undo":
                    kept = earlier.pop()
                elif head in JOINS and not is_even(pacer):
                    self.assertEqual(result, "uneven")
                    continue
                else:
                    earlier.append(kept)
                    kept = turned(kept) if head == "turn" else JOINS[head](kept, stepper_of(pacer))
                self.assertEqual(result, str(len(kept)))
                self.assertEqual(told_by_console(console)[-12:], told_by_stepper(kept)[-12:])


class RefusedTest(unittest.TestCase):
    def setUp(self):
        self.console = Console()
        self.console.run(command_of("keep", ONE))
        self.console.run(command_of("keep", SHIFT))
        self.told = told_by_console(self.console)

    def refuses(self, *commands):
        for command in commands:
            with self.subTest(command=command):
                with self.assertRaises(InvalidCommand):
                    self.console.run(command)
        self.assertEqual(told_by_console(self.console), self.told)
        self.assertEqual(self.console.run("undo"), "1")
        self.assertEqual(told_by_console(self.console), told_by_stepper(stepper_of(ONE)))
        self.assertEqual(self.console.run("undo"), "1")
        with self.assertRaises(NothingToUndo):
            self.console.run("undo")

    def test_no_strings(self):
        self.refuses(*ODD_VALUES, ["turn"], ("turn",), {"turn": 1}, ["is", "a", "b"], Console(), (SHIFT, "keep"))

    def test_blanks_more(self):
        for command in (command_of("keep", ONE), "turn", "undo", "is a b", "answers a", "first", "many 3"):
            words = command.split(" ")
            wider = [" ".join(words[:at]) + "  " + " ".join(words[at:]) for at in range(1, len(words))]
            self.setUp()
            self.refuses(f" {command}", f"{command} ", *wider, command.replace(" ", "") + " ")

    def test_line_feeds(self):
        commands = [command_of("keep", ONE), "turn", "undo", "is a b", "answers a", "first", "many 3"]
        fed = [command + "\n" for command in commands] + ["\n" + command for command in commands]
        fed += [command.replace(" ", "\n", 1) for command in commands if " " in command]
        fed += [f"keep {ONE}", command_of("keep", ONE).replace(";", "\n", 1), "is a\nb c", "turn\nundo"]
        self.refuses(*fed)

    def test_words_more_and_less(self):
        self.refuses(
            *("keep", "join", "cut", "less", "keep ", "is", "is a", "is a b c", "is - - -", "is  ", "answers"),
            *("answers a b", "answers ", "first a", "first -", "many", "many 1 2", "many "),
            *("turn a", "undo 1", "undo undo"),
        )

    def test_other_heads(self):
        self.refuses(
            *("", " ", "-", ";", "Keep", "KEEP pacer 1;begins 0;ends 0", "Turn", "UNDO", "isa b", "isab", "tell a b"),
            *("keep;", "turn;", "undo;", "either pacer 1;begins 0;ends 0", "pacer 1;begins 0;ends 0", "both", "turned"),
            *("stepper 1;ends 0", "answer a", "last", "none", "behind pacer 1;begins 0;ends 0", "is-a b"),
        )

    def test_lengths(self):
        beyond = ("61", "100", "999", "1000", str(10**39), "-1")
        otherwise = ("00", "01", "060", "+1", "-0", "1.0", "1_0", "0x1", "1e1", "a", "-", "3;", "", "six", "'3'")
        self.refuses(*(f"many {number}" for number in (*beyond, *otherwise)))

    def test_texts(self):
        bad = ("A", "aB", "a1", "a-", "--", "-a", "a.b", "a;b", "_", "{", "`", "~", "a,b", "'a'")
        self.refuses(*(f"{words} {text}" for text in bad for words in ("is a", "answers")))
        self.setUp()
        self.refuses(*(f"is {text} a" for text in bad))

    def test_texts_of_pacers_that_are_none(self):
        text = str(SHIFT).replace("\n", ";")
        otherwise = {
            "pacer 2": ("pacer", "pacer 0", "pacer 1", "pacer 02", "pacer 1000", "stepper 2", "Pacer 2", "pacer 2 2"),
            "begins 0": ("begins", "begins 0 0", "begins 2", "begins -1", "begins - 0", "begins 0;begins 0"),
            "ends 1": ("ends", "ends 2", "ends 1 0", "ends 1;ends 1", "ends 1 1"),
            "a a 1": ("a A 1", "a a 2", "a a", "a a 1 1", "a a x", "a  a 1", "a ; a 1", "a -- 1", "a a 01"),
            ";": (";;", " ;", "; ", "", ",", ":"),
            " ": ("", "  ", ";"),
        }
        bad = [text.replace(part, other) for part, others in otherwise.items() for other in others]
        bad += [text + ";", ";" + text, text + ";;", text + "; ", text[:-1], text + " ", "-", ";"]
        self.refuses(*(f"{head} {other}" for other in bad for head in JOINS))


class InterfaceTest(unittest.TestCase):
    def test_two_consoles_know_nothing_of_one_another(self):
        one, other = Console(), Console()
        one.run(command_of("keep", ONE))
        self.assertEqual(told_by_console(other), told_by_stepper(NONE_TOLD))
        with self.assertRaises(NothingToUndo):
            other.run("undo")
        other.run(command_of("keep", SHIFT))
        self.assertEqual(told_by_console(one), told_by_stepper(stepper_of(ONE)))
        one.run("undo")
        self.assertEqual(told_by_console(other), told_by_stepper(stepper_of(SHIFT)))

    def test_questions_change_nothing(self):
        console = Console()
        console.run(command_of("keep", SHIFT))
        self.assertEqual(told_by_console(console), told_by_console(console))

    def test_answers_are_strings(self):
        console = Console()
        questions = ("is a b", "answers a", "first", "many 1")
        for command in (command_of("keep", ONE), command_of("join", WIDE), "turn", "undo", *questions):
            self.assertIs(type(console.run(command)), str)

    def test_by_name(self):
        self.assertEqual(Console().run(command="first"), "none")

    def test_equal_to_itself_alone(self):
        console = Console()
        self.assertEqual(console, console)
        for thing in ODD_VALUES:
            self.assertNotEqual(console, thing)

    def test_texts_of_all_lengths(self):
        console = Console()
        console.run(command_of("keep", FOUR_AHEAD))
        for left in texts_of("ab", 3):
            found = console.run(f"answers {word_of(left)}").split(" ")
            self.assertEqual(found, ["aaab" + left, "baab" + left])

    def test_defined_in_its_class_and_file(self):
        self.assertEqual(Console.__module__, "evenlead.console")
        self.assertIn("run", vars(Console))
