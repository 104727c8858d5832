"""Tests of zoneward.names: points 1 to 4."""

import inspect
import random
import unittest

from zoneward import names
from zoneward.errors import InvalidName
from zoneward.names import format_name, is_below, is_label, is_within, name_size, parse_name

ALLOWED = "abcdefghijklmnopqrstuvwxyz0123456789-_"
LONG = "x" * 63
# The sizes of these names are 255 and 256.
LARGEST = ("a" * 61, LONG, LONG, LONG)
TOO_LARGE = ("a" * 62, LONG, LONG, LONG)
# Not ASCII: lower() makes "k", "i" with a dot above and "a" with a ring of the first three.
STRANGE = ["\u212a", "\u0130", "\u212b", "\xe9", "\xc9", "\xdf", "\u0660", "\xb2", "\u01c6", "\uff41"]


def some_name(source, longest=5):
    return tuple("".join(source.choice(ALLOWED) for _ in range(source.randint(1, 12)))
                 for _ in range(source.randint(0, longest)))


class InterfaceTest(unittest.TestCase):
    def test_the_functions_and_their_arguments(self):
        arguments = {"name_size": "(name)", "is_label": "(label)", "is_within": "(name, other)",
                     "is_below": "(name, other)", "format_name": "(name)", "parse_name": "(text, origin)"}
        for name, signature in arguments.items():
            function = getattr(names, name)
            self.assertEqual(function.__module__, "zoneward.names")
            self.assertEqual(str(inspect.signature(function)), signature)


class NameSizeTest(unittest.TestCase):
    def test_sizes(self):
        for name, size in [((), 1), (("a",), 3), (("www", "example"), 13), (("*", "w"), 5), ((LONG,), 65)]:
            with self.subTest(name):
                self.assertEqual(name_size(name), size)

    def test_the_largest_size_and_beyond(self):
        self.assertEqual(name_size(LARGEST), 255)
        self.assertEqual(name_size(TOO_LARGE), 256)
        self.assertEqual(name_size(("a",) * 127), 255)
        self.assertEqual(name_size(("a",) * 128), 257)
        self.assertEqual(name_size(("a" * 64,) * 5), 326)


class IsLabelTest(unittest.TestCase):
    def test_labels(self):
        for label in ["a", "z", "0", "9", "-", "_", "--", "__", "-a", "a-", "_tcp", "xn--a", "007", ALLOWED, "*"]:
            with self.subTest(label):
                self.assertIs(is_label(label), True)

    def test_lengths(self):
        for length in range(0, 130):
            with self.subTest(length):
                self.assertIs(is_label("a" * length), 1 <= length <= 63)

    def test_each_single_character(self):
        for code in range(0x3000):
            character = chr(code)
            self.assertIs(is_label(character), character in ALLOWED + "*", code)

    def test_each_character_at_each_place_of_a_longer_label(self):
        for code in range(0x180):
            character = chr(code)
            for label in (character + "ab", "a" + character + "b", "ab" + character):
                self.assertIs(is_label(label), character in ALLOWED, (code, label))

    def test_the_star_stands_alone(self):
        for label in ["**", "*a", "a*", "a*b", "*-"]:
            with self.subTest(label):
                self.assertIs(is_label(label), False)

    def test_no_labels(self):
        for label in ["", "A", "aB", ".", "a.", ".a", "a.b", "@", " ", "a b", "a\n", "\n", "a\t", "%", "\\"] + STRANGE:
            with self.subTest(label):
                self.assertIs(is_label(label), False)


class IsWithinTest(unittest.TestCase):
    def check(self, name, other, within, below):
        with self.subTest(name=name, other=other):
            self.assertIs(is_within(name, other), within)
            self.assertIs(is_below(name, other), below)

    def test_a_name_is_within_itself_and_not_below(self):
        for name in [(), ("a",), ("a", "b"), ("*", "a"), LARGEST]:
            self.check(name, name, True, False)

    def test_equal_names_that_are_different_objects(self):
        self.check(tuple(["ab", "c"]), tuple(["ab", "c"]), True, False)

    def test_a_name_is_within_the_root(self):
        for name in [("a",), ("a", "b"), ("*",), LARGEST]:
            self.check(name, (), True, True)
            self.check((), name, False, False)

    def test_the_last_labels_count(self):
        self.check(("www", "shop", "example"), ("example",), True, True)
        self.check(("www", "shop", "example"), ("shop", "example"), True, True)
        self.check(("www", "shop", "example"), ("www", "shop"), False, False)
        self.check(("www", "shop", "example"), ("shop",), False, False)
        self.check(("www", "shop", "example"), ("www", "example"), False, False)
        self.check(("example",), ("shop", "example"), False, False)
        self.check(("a", "a"), ("a",), True, True)
        self.check(("a",), ("a", "a"), False, False)

    def test_labels_are_compared_whole(self):
        self.check(("myexample",), ("example",), False, False)
        self.check(("a", "bc"), ("c",), False, False)
        self.check(("ab", "c"), ("a", "bc"), False, False)
        self.check(("a", "b"), ("c", "d"), False, False)

    def test_the_star_is_a_label_like_the_others(self):
        self.check(("x", "w"), ("*", "w"), False, False)
        self.check(("x", "*", "w"), ("*", "w"), True, True)

    def test_names_beyond_the_largest_size(self):
        self.check(TOO_LARGE, TOO_LARGE, True, False)
        self.check(TOO_LARGE, TOO_LARGE[1:], True, True)
        self.check(("a",) + TOO_LARGE, TOO_LARGE, True, True)
        self.check(("a" * 64, "b"), ("b",), True, True)

    def test_against_every_end_of_a_name(self):
        source = random.Random(4)
        for _ in range(500):
            name = tuple(source.choice("ab") for _ in range(source.randint(0, 4)))
            other = tuple(source.choice("ab") for _ in range(source.randint(0, 4)))
            ends = [name[first:] for first in range(len(name) + 1)]
            self.check(name, other, other in ends, other in ends[1:])


class FormatNameTest(unittest.TestCase):
    def test_texts(self):
        for name, text in [((), "."), (("a",), "a."), (("www", "example"), "www.example."), (("*", "w"), "*.w."),
                           (("_x", "-", "0"), "_x.-.0.")]:
            with self.subTest(name):
                self.assertEqual(format_name(name), text)

    def test_the_largest_name_and_beyond(self):
        for name in (LARGEST, TOO_LARGE):
            self.assertEqual(format_name(name), name[0] + ("." + LONG) * 3 + ".")

    def test_the_text_of_a_name_stands_for_it_whatever_the_origin(self):
        source = random.Random(3)
        for _ in range(300):
            name = some_name(source)
            text = format_name(name)
            self.assertTrue(text.endswith("."))
            self.assertEqual(text, text.lower())
            self.assertEqual(parse_name(text, some_name(source)), name)


class ParseNameTest(unittest.TestCase):
    def check(self, text, origin, name):
        with self.subTest(text=text, origin=origin):
            found = parse_name(text, origin)
            self.assertIsInstance(found, tuple)
            self.assertEqual(found, name)

    def refuse(self, text, origin=("example",)):
        with self.subTest(text=text, origin=origin):
            with self.assertRaises(InvalidName) as context:
                parse_name(text, origin)
            self.assertIs(context.exception.__class__, InvalidName)
            self.assertEqual(context.exception.place, 0)

    def test_the_examples_of_the_document(self):
        self.assertEqual(parse_name("WWW.shop", ("example",)), ("www", "shop", "example"))
        self.assertEqual(parse_name("a.", ("example",)), ("a",))
        self.assertEqual(format_name(("www", "example")), "www.example.")
        self.assertIs(is_below(("example",), ()), True)

    def test_an_absolute_text_leaves_the_origin_out(self):
        for origin in [(), ("example",), ("a", "b"), TOO_LARGE]:
            self.check("www.example.", origin, ("www", "example"))
            self.check("a.", origin, ("a",))
            self.check(".", origin, ())

    def test_the_origin_follows_a_relative_text(self):
        self.check("a", (), ("a",))
        self.check("a.b", (), ("a", "b"))
        self.check("a", ("b", "c"), ("a", "b", "c"))
        self.check("a.b", ("a", "b"), ("a", "b", "a", "b"))

    def test_the_at_sign_stands_for_the_origin(self):
        for origin in [(), ("example",), ("a", "b"), LARGEST]:
            self.check("@", origin, origin)

    def test_upper_case_letters_stand_for_lower_case_letters(self):
        self.check("ABCDEFGHIJKLMNOPQRSTUVWXYZ.", ("b",), ("abcdefghijklmnopqrstuvwxyz",))
        self.check("wWw.A-_9", ("b",), ("www", "a-_9", "b"))

    def test_the_star_is_a_label(self):
        self.check("*", ("w",), ("*", "w"))
        self.check("*.w.", ("b",), ("*", "w"))
        self.check("a.*.w.", (), ("a", "*", "w"))

    def test_every_allowed_character(self):
        self.check(ALLOWED + ".", (), (ALLOWED,))

    def test_the_length_of_a_label(self):
        for length in (1, 63):
            self.check("a" * length, ("b",), ("a" * length, "b"))
            self.check("b." + "A" * length + ".", (), ("b", "a" * length))
        for length in (64, 65, 200):
            self.refuse("a" * length)
            self.refuse("a" * length + ".")
            self.refuse("b." + "a" * length + ".c")

    def test_the_size_of_a_name(self):
        self.check(format_name(LARGEST), ("b",), LARGEST)
        self.check(LARGEST[0], LARGEST[1:], LARGEST)
        self.check("a." * 127, (), ("a",) * 127)
        self.check("a" * 63, ("b" * 63, "c" * 63, "d" * 61), ("a" * 63, "b" * 63, "c" * 63, "d" * 61))
        self.refuse(format_name(TOO_LARGE))
        self.refuse(TOO_LARGE[0], TOO_LARGE[1:])
        self.refuse("a", LARGEST)
        self.refuse("@", TOO_LARGE)
        self.refuse("a." * 128)
        self.refuse("a" + ".a" * 127, ())

    def test_empty_labels(self):
        for text in ["", "..", "...", ".a", ".a.", "a..", "a..b", "a..b.", "@..", ".@"]:
            self.refuse(text)
            self.refuse(text, ())

    def test_the_at_sign_is_no_label(self):
        for text in ["@.", "a@", "@a", "@@", "a.@", "@.a", "@.@"]:
            self.refuse(text)

    def test_characters_that_are_not_allowed(self):
        for code in range(128):
            character = chr(code)
            if character.lower() not in ALLOWED + "*.":
                self.refuse("a" + character + "b")
                self.refuse(character + "ab.c.")
                self.refuse("c.ab" + character)
        for text in ["**", "*a", "a*", "*.a*.", "a b", " a", "a ", " ", "a.\n", "\n", "a\n"]:
            self.refuse(text)

    def test_letters_that_are_not_ascii(self):
        for character in STRANGE:
            for text in (character, character + ".", "a" + character, "A." + character + ".b"):
                self.refuse(text)

    def test_the_arguments_do_not_change(self):
        origin = ("shop", "example")
        name = parse_name("a", origin)
        self.assertEqual(origin, ("shop", "example"))
        is_within(name, origin)
        is_below(name, origin)
        name_size(name)
        format_name(name)
        self.assertEqual((name, origin), (("a", "shop", "example"), ("shop", "example")))
