"""Tests of zoneward.zonefile: points 1 and 17 to 20."""

import copy
import inspect
import random
import re
import unittest

from helper import RECORD_KINDS, some_name, some_value
from zoneward import zonefile
from zoneward.errors import InvalidLine, InvalidName, InvalidText, OutOfRange
from zoneward.names import format_name, name_size
from zoneward.zonefile import read_zone_file, write_zone_file

ORIGIN = ("b",)
LONG = ("x" * 63,) * 3
# One label less than MOST is within the bounds of a name, which has the size 255 with it.
MOST = LONG + ("y" * 61,)


NAME_FORM = r"(?P<name>[^ \"]\S*)"
NUMBER_FORM = r"\d{1,10}"
FIVE_NUMBERS = " ".join([NUMBER_FORM] * 5)
DATA_FORMS = {
    "A": fr"(?P<byte>{NUMBER_FORM}(\.{NUMBER_FORM}){{3}})|(?P<number>{NUMBER_FORM})", "NS": NAME_FORM,
    "CNAME": NAME_FORM, "SOA": fr"{NAME_FORM} (?P<number>{FIVE_NUMBERS})",
    "MX": fr"(?P<preference>{NUMBER_FORM}) {NAME_FORM}", "TXT": "\"(?P<text>.*)\""}
MOST_OF = {"ttl": 2 ** 31 - 1, "byte": 255, "number": 2 ** 32 - 1, "preference": 65535}


def parts_in_another_way(words, begins_with_space):
    """The parts of the words of a line by what they stand for, with their kind, or None."""
    text = " ".join(words)
    if not begins_with_space and words[0] in ("$TTL", "$ORIGIN"):
        parts = re.fullmatch(fr"\$TTL (?P<ttl>{NUMBER_FORM})|\$ORIGIN {NAME_FORM}", text)
        return None if parts is None or len(words) != 2 else (words[0], parts.groupdict())
    owner = "" if begins_with_space else "(?P<owner>[^ \"]\\S*) "
    for kind, form in DATA_FORMS.items():
        parts = re.fullmatch(fr"{owner}((?P<ttl>{NUMBER_FORM}) )?{kind} ({form})", text)
        if parts is not None and (kind != "TXT" or words[-1] == '"' + parts["text"] + '"'):
            return kind, parts.groupdict()
    return None


def name_in_another_way(text, origin):
    """The name of a text, or None if it is not valid."""
    text = text.lower()
    labels = () if text in ("@", ".") else tuple(text.removesuffix(".").split("."))
    name = labels if text.endswith(".") else labels + origin
    if name_size(name) > 255 or not all(re.fullmatch(r"[a-z0-9_-]{1,63}|\*", label) for label in name):
        return None
    return name


def read_in_another_way(lines, origin):
    """The records of lines, or the class and the place of the first error, by regular expressions."""
    found, owner, ttl = [], None, None
    for place, line in enumerate(lines):
        if re.fullmatch(r'( *("[^"]*"|[^ ;"][^ ;]*)(?=[ ;]|$))* *(;.*)?', line) is None:
            return InvalidText, place
        words = [word for word, _ in re.findall(r'("[^"]*"|[^ ;"][^ ;]*)|(;.*)', line) if word]
        if not words:
            continue
        kind, parts = parts_in_another_way(words, line[0] == " ") or (None, {})
        is_record = kind in RECORD_KINDS
        if kind is None or (is_record and None in (parts.get("owner") or owner, parts["ttl"] or ttl)):
            return InvalidLine, place
        names = {key: name_in_another_way(parts[key], origin) for key in ("owner", "name") if parts.get(key)}
        if None in names.values():
            return InvalidName, place
        numbers = {key: [int(word) for word in re.findall(r"\d+", parts[key])] for key in MOST_OF if parts.get(key)}
        if len(parts.get("text") or "") > 255 or any(max(numbers[key]) > MOST_OF[key] for key in numbers):
            return OutOfRange, place
        if not is_record:
            origin, ttl = names.get("name", origin), numbers.get("ttl", ttl)
            continue
        owner = names.get("owner", owner)
        values = [*numbers.get("number", ()), parts.get("text")]
        value = {"A": values[0], "NS": names.get("name"), "CNAME": names.get("name"), "TXT": values[0],
                 "SOA": (names.get("name"), *values[:-1]), "MX": (*numbers.get("preference", ()), names.get("name"))}
        if "byte" in numbers:
            value["A"] = int.from_bytes(bytes(numbers["byte"]), "big")
        found.append((owner, kind, numbers.get("ttl", ttl)[0], value[kind]))
    return found


class ZoneFileCase(unittest.TestCase):
    def check(self, lines, records, origin=ORIGIN):
        with self.subTest(lines=lines):
            self.assertEqual(read_zone_file(lines, origin), records)
            self.assertEqual(read_in_another_way(lines, origin), records)

    def check_value(self, kind, data, value):
        """The data are read as the value, with a ttl, without it, and without an owner."""
        self.check([f"a 5 {kind} {data}"], [(("a", "b"), kind, 5, value)])
        self.check(["$TTL 7", f"a {kind} {data}", f"  {kind} {data}", f" 9 {kind} {data} "],
                   [(("a", "b"), kind, ttl, value) for ttl in (7, 7, 9)])

    def refuse(self, error, lines, place=None, origin=ORIGIN):
        """Reading the lines raises the error, at the last line if no place is told."""
        place = len(lines) - 1 if place is None else place
        with self.subTest(lines=lines):
            with self.assertRaises(error) as context:
                read_zone_file(lines, origin)
            self.assertIs(context.exception.__class__, error)
            self.assertEqual(context.exception.place, place)
            self.assertEqual(read_in_another_way(lines, origin), (error, place))


class InterfaceTest(unittest.TestCase):
    def test_the_functions_and_their_arguments(self):
        for name, signature in {"read_zone_file": "(lines, origin)", "write_zone_file": "(records)"}.items():
            function = getattr(zonefile, name)
            self.assertEqual(function.__module__, "zoneward.zonefile")
            self.assertEqual(str(inspect.signature(function)), signature)


class RecordsTest(ZoneFileCase):
    def test_the_example_of_the_document(self):
        self.check(["$TTL 60", "www A 0.0.1.2 ; two", "   5 MX 10 @"],
                   [(("www", "b"), "A", 60, 258), (("www", "b"), "MX", 5, (10, ("b",)))])

    def test_no_lines(self):
        self.check([], [])

    def test_addresses(self):
        for data, value in [("0", 0), ("4294967295", 2 ** 32 - 1), ("0.0.0.0", 0), ("255.255.255.255", 2 ** 32 - 1),
                            ("1.2.3.4", 16909060), ("0.0.0.255", 255), ("0.0.1.0", 256), ("128.0.0.1", 2 ** 31 + 1),
                            ("0000000007", 7), ("0000000001.02.003.0000000255", 16909311)]:
            self.check_value("A", data, value)

    def test_names_as_data(self):
        for kind in ("NS", "CNAME"):
            for data, value in [("c", ("c", "b")), ("c.d", ("c", "d", "b")), ("c.", ("c",)), ("c.d.", ("c", "d")),
                                (".", ()), ("@", ("b",)), ("C-x.D_", ("c-x", "d_", "b")), ("*.q", ("*", "q", "b")),
                                ("0", ("0", "b")), ("A.", ("a",)), ("12345678901", ("12345678901", "b"))]:
                self.check_value(kind, data, value)

    def test_soa(self):
        self.check_value("SOA", "s 1 2 3 4 5", (("s", "b"), 1, 2, 3, 4, 5))
        self.check_value("SOA", "@ 0 4294967295 0 4294967295 0000000000",
                         (("b",), 0, 2 ** 32 - 1, 0, 2 ** 32 - 1, 0))
        self.check_value("SOA", "7 1 0 0 0 0", (("7", "b"), 1, 0, 0, 0, 0))

    def test_mx(self):
        self.check_value("MX", "10 @", (10, ("b",)))
        self.check_value("MX", "0 M.", (0, ("m",)))
        self.check_value("MX", "0000065535 9", (65535, ("9", "b")))

    def test_txt(self):
        for text in ["", " ", ";", "a;b ; c", "  two  spaces ", "x" * 255, "$ORIGIN", "\\", "Upper", "@", "5", "'.,",
                     " !#$&()*+-/:<=>?[]^_`{|}~"]:
            self.check_value("TXT", f'"{text}"', text)

    def test_owners(self):
        for text, owner in [("a", ("a", "b")), ("a.", ("a",)), ("@", ("b",)), (".", ()), ("*", ("*", "b")),
                            ("WWW.Shop", ("www", "shop", "b")), ("5", ("5", "b")), ("A", ("a", "b")),
                            ("-", ("-", "b")), ("a.*.c.", ("a", "*", "c")), ("TTL", ("ttl", "b"))]:
            self.check([f"{text} 5 A 1"], [(owner, "A", 5, 1)])
            self.check(["$TTL 9", f"{text} A 1"], [(owner, "A", 9, 1)])

    def test_other_origins(self):
        self.check(["a 5 NS @"], [(("a",), "NS", 5, ())], ())
        self.check(["@ 5 NS a."], [(("c", "d"), "NS", 5, ("a",))], ("c", "d"))

    def test_a_number_may_be_an_owner_and_a_ttl(self):
        self.check(["60 60 A 60"], [(("60", "b"), "A", 60, 60)])
        self.check(["$TTL 1", "60 A 60"], [(("60", "b"), "A", 1, 60)])
        self.check(["$TTL 1", "60 60 A 60"], [(("60", "b"), "A", 60, 60)])

    def test_a_kind_may_be_an_owner(self):
        self.check(["A 5 A 1", "$TTL 6", "TXT TXT \"A\""], [(("a", "b"), "A", 5, 1), (("txt", "b"), "TXT", 6, "A")])

    def test_the_result_is_a_list_of_tuples(self):
        found = read_zone_file(["a 5 MX 1 m", "a 5 SOA m 1 2 3 4 5"], ORIGIN)
        self.assertEqual([found.__class__, found[0].__class__, found[0][3].__class__, found[1][3].__class__],
                         [list, tuple, tuple, tuple])

    def test_records_are_not_made_to_sets(self):
        self.check(["a 5 A 9", "b 5 A 1", "a 3 A 2", "a 5 A 9"],
                   [(("a", "b"), "A", 5, 9), (("b", "b"), "A", 5, 1), (("a", "b"), "A", 3, 2), (("a", "b"), "A", 5, 9)])


class WordsTest(ZoneFileCase):
    def test_spaces(self):
        self.check(["a    5  A     1   "], [(("a", "b"), "A", 5, 1)])
        self.check(["a 5 A 1", "       6    A  2"], [(("a", "b"), "A", 5, 1), (("a", "b"), "A", 6, 2)])
        self.check(["$TTL    5  ", "$ORIGIN   c.  ", "a A 1"], [(("a", "c"), "A", 5, 1)])

    def test_comments(self):
        for comment in (";", ";x", " ; two", ';"', ' ; "a" "', ";;;", " ; 5 A 1"):
            self.check(["a 5 A 1" + comment], [(("a", "b"), "A", 5, 1)])
            self.check(['a 5 TXT "x"' + comment], [(("a", "b"), "TXT", 5, "x")])
            self.check(['a 5 TXT "x;y"' + comment], [(("a", "b"), "TXT", 5, "x;y")])
            self.check(["$TTL 6" + comment, "a A 1", "$ORIGIN c." + comment, "a A 2"],
                       [(("a", "b"), "A", 6, 1), (("a", "c"), "A", 6, 2)])

    def test_a_comment_hides_words(self):
        self.refuse(InvalidLine, ["a 5 A ; 1"])
        self.refuse(InvalidLine, ["a 5 ;A 1"])
        self.refuse(InvalidLine, ["a;5 A 1"])
        self.refuse(InvalidLine, ["$TTL;5"])

    def test_lines_without_words(self):
        for line in ("", " ", "     ", ";", "; a 5 A 1", "   ; x", ';"', '  ;"a'):
            self.check([line], [])
            self.check([line, "a 5 A 1", line, line, " 5 A 2", line],
                       [(("a", "b"), "A", 5, 1), (("a", "b"), "A", 5, 2)])

    def test_a_quote_within_a_word_does_not_begin_a_string(self):
        self.refuse(InvalidName, ['a"b 5 A 1'])
        self.refuse(InvalidName, ['a" 5 A 1'])
        self.refuse(InvalidLine, ['a"b 5 A'])
        self.refuse(InvalidName, ['a"b 5 NS c"d;e"'])
        self.refuse(InvalidLine, ['a 5 A 1"'])
        self.refuse(InvalidLine, ['a 5 TXT x"y"'])


class OwnerTest(ZoneFileCase):
    def test_the_owner_of_the_line_before(self):
        self.check(["a 5 A 1", " 6 A 2", " 7 A 3", "c 5 A 4", " 8 A 5"],
                   [(("a", "b"), "A", 5, 1), (("a", "b"), "A", 6, 2), (("a", "b"), "A", 7, 3), (("c", "b"), "A", 5, 4),
                    (("c", "b"), "A", 8, 5)])

    def test_the_owner_is_kept_over_lines_without_a_record(self):
        self.check(["a 5 A 1", "", "   ", "; c", "$TTL 9", "  ;", " A 2"],
                   [(("a", "b"), "A", 5, 1), (("a", "b"), "A", 9, 2)])

    def test_the_owner_does_not_follow_the_origin(self):
        self.check(["a 5 A 1", "$ORIGIN c.", " 5 A 2", "$ORIGIN .", " 5 NS x", "a 5 A 3", " 5 A 4"],
                   [(("a", "b"), "A", 5, 1), (("a", "b"), "A", 5, 2), (("a", "b"), "NS", 5, ("x",)),
                    (("a",), "A", 5, 3), (("a",), "A", 5, 4)])
        self.check(["@ 5 A 1", "$ORIGIN c.", " 5 A 2"], [(("b",), "A", 5, 1), (("b",), "A", 5, 2)])

    def test_the_root_as_the_owner(self):
        self.check([". 5 A 1", " 5 A 2"], [((), "A", 5, 1), ((), "A", 5, 2)])
        self.check(["@ 5 A 1", "$ORIGIN c", " 5 A 2"], [((), "A", 5, 1), ((), "A", 5, 2)], ())

    def test_the_largest_owner(self):
        owner = format_name(MOST)
        self.check([owner + " 5 A 1", "$ORIGIN c.", " 5 A 2"], [(MOST, "A", 5, 1), (MOST, "A", 5, 2)])

    def test_a_missing_owner(self):
        self.refuse(InvalidLine, [" 5 A 1"])
        self.refuse(InvalidLine, ["", "$TTL 5", "$ORIGIN a", " A 1"])
        self.refuse(InvalidLine, [" a 5 A 1"])
        self.refuse(InvalidLine, ["$TTL 5", " a A 1"])

    def test_a_line_that_begins_with_a_space_has_no_owner(self):
        self.refuse(InvalidLine, ["a 5 A 1", " a 5 A 1"])
        self.refuse(InvalidLine, ["$TTL 5", "a 5 A 1", " a A 1"])


class TtlTest(ZoneFileCase):
    def test_the_default_ttl(self):
        self.check(["$TTL 5", "a A 1", " A 2", "c 6 A 3", "d A 4", "$TTL 0", "d A 5", "$TTL 0000000009", " A 6"],
                   [(("a", "b"), "A", 5, 1), (("a", "b"), "A", 5, 2), (("c", "b"), "A", 6, 3), (("d", "b"), "A", 5, 4),
                    (("d", "b"), "A", 0, 5), (("d", "b"), "A", 9, 6)])

    def test_a_ttl_of_a_record_is_no_default(self):
        self.refuse(InvalidLine, ["a 5 A 1", " A 2"])
        self.refuse(InvalidLine, ["a 5 A 1", "a A 2"])

    def test_a_missing_default_ttl(self):
        self.refuse(InvalidLine, ["a A 1"])
        self.refuse(InvalidLine, ["a A 1", "$TTL 5"], 0)

    def test_the_bounds(self):
        self.check(["a 0 A 1", "a 2147483647 A 1", "$TTL 2147483647", "a A 1", "a 0000000000 A 1"],
                   [(("a", "b"), "A", ttl, 1) for ttl in (0, 2147483647, 2147483647, 0)])
        for ttl in (2147483648, 4294967295, 4294967296, 9999999999):
            self.refuse(OutOfRange, [f"a {ttl} A 1"])
            self.refuse(OutOfRange, [f"$TTL {ttl}"])
            self.refuse(OutOfRange, ["a 5 A 1", f" {ttl} A 1"])

    def test_words_that_are_no_ttl(self):
        for word in ("x", "-1", "+1", "1.0", "12345678901", "00000000000", "5s", "0x5", "1_0", '"5"', "@", ".", "5A"):
            self.refuse(InvalidLine, [f"a {word} A 1"])
            self.refuse(InvalidLine, ["$TTL 7", f"a {word} A 1"])
            self.refuse(InvalidLine, [f"$TTL {word}"])


class DirectivesTest(ZoneFileCase):
    def test_the_origin_changes_for_later_lines(self):
        self.check(["a 5 NS x", "$ORIGIN c", "a 5 NS x", "$ORIGIN d.", "a 5 NS @", "$ORIGIN @", "a 5 NS x",
                    "$ORIGIN E.f", "@ 5 NS x", "$ORIGIN .", "a 5 NS @"],
                   [(("a", "b"), "NS", 5, ("x", "b")), (("a", "c", "b"), "NS", 5, ("x", "c", "b")),
                    (("a", "d"), "NS", 5, ("d",)), (("a", "d"), "NS", 5, ("x", "d")),
                    (("e", "f", "d"), "NS", 5, ("x", "e", "f", "d")), (("a",), "NS", 5, ())])

    def test_wrong_words(self):
        for line in ("$ORIGIN", "$TTL", "$ORIGIN a b", "$TTL 5 6", "$TTL a", '$ORIGIN "a"', '$TTL "5"', "$ORIGIN a 5",
                     "$TTL 12345678901", "$TTL 5.", '$ORIGIN ""', "$TTL 5 A"):
            self.refuse(InvalidLine, [line])
            self.refuse(InvalidLine, ["$TTL 5", "a A 1", line])

    def test_lines_that_begin_with_them_are_no_records(self):
        for line in ("$TTL 60 A 5", "$TTL A 5", "$ORIGIN 60 A 5", "$ORIGIN A 5"):
            self.refuse(InvalidLine, ["$TTL 7", line])

    def test_behind_a_space_they_are_records_without_an_owner(self):
        for line in (" $TTL 5", " $ORIGIN a", "  $TTL 5", " $ORIGIN A 5"):
            self.refuse(InvalidLine, [line])
            self.refuse(InvalidLine, ["$TTL 5", "a A 1", line])

    def test_other_words_are_owners(self):
        for word in ("$", "$ttl", "$Origin", "$TTLS", "$ORIGINS", "$INCLUDE", "TTL$", "$TTL.", "$ORIGIN."):
            self.refuse(InvalidLine, [word + " 5"])
            self.refuse(InvalidName, [word + " 5 A 1"])
        self.refuse(InvalidLine, ['"$TTL" 5'])

    def test_wrong_origins(self):
        for text in ("..", "a..", ".a", "a..b", "$", "a$", "x" * 64, "\\", "a.b.c.."):
            self.refuse(InvalidName, [f"$ORIGIN {text}"])
            self.refuse(InvalidName, [f"$ORIGIN {text}.", "; next"], 0)
        self.refuse(InvalidName, ["$ORIGIN " + ".".join(MOST)])
        self.refuse(InvalidName, ["$ORIGIN c", "$ORIGIN x"], 1, LONG + ("y" * 58,))

    def test_an_origin_changes_with_the_lines_only(self):
        lines = ["$ORIGIN c.", "$TTL 5", "a A 1"]
        for _ in range(2):
            self.check(lines, [(("a", "c"), "A", 5, 1)])
        self.refuse(InvalidLine, ["a A 1"])
        self.check(["a 5 A 1"], [(("a", "b"), "A", 5, 1)])


class TextErrorTest(ZoneFileCase):
    def test_strings_that_do_not_end(self):
        for word in ('"', '"x', '"x ; y', '"x 5 A 1', '"a" "', '"a" "b', '" '):
            self.refuse(InvalidText, [f"a 5 TXT {word}"])
            self.refuse(InvalidText, [word])
            self.refuse(InvalidText, [" " + word])
            self.refuse(InvalidText, ["$TTL " + word])

    def test_strings_that_are_followed_wrongly(self):
        for word in ('"x"y', '"x"y"', '"x""y"', '""""', '"""', '"x".', '"a""', '"x"5 A'):
            self.refuse(InvalidText, [f"a 5 TXT {word}"])
            self.refuse(InvalidText, [word])
            self.refuse(InvalidText, [f"a 5 TXT {word} ; more"])

    def test_quotes_in_comments(self):
        self.check(['a 5 A 1 ; "', 'a 5 TXT "x";"', ';""x'], [(("a", "b"), "A", 5, 1), (("a", "b"), "TXT", 5, "x")])


class LineErrorTest(ZoneFileCase):
    GOOD = {"A": "1", "NS": "c", "CNAME": "c", "SOA": "c 1 2 3 4 5", "MX": "1 c", "TXT": '"x"'}

    def test_too_few_and_too_many_words(self):
        self.refuse(InvalidLine, ["a"])
        self.refuse(InvalidLine, ["a 5"])
        self.refuse(InvalidLine, ["$TTL 5", "a"])
        self.refuse(InvalidLine, ["a 5 A 1", " 5"])
        for kind, data in self.GOOD.items():
            words = data.split()
            for count in range(len(words)):
                self.refuse(InvalidLine, [f"a 5 {kind} " + " ".join(words[:count])])
                self.refuse(InvalidLine, ["$TTL 5", f"a {kind} " + " ".join(words[:count])])
            for more in ("1", "c", '"x"', ".", "A"):
                self.refuse(InvalidLine, [f"a 5 {kind} {data} {more}"])
                self.refuse(InvalidLine, ["$TTL 5", f"a {kind} {data} {more}"])
                self.refuse(InvalidLine, ["$TTL 5", "a A 1", f" {kind} {data} {more}"])

    def test_unknown_kinds(self):
        for kind in ("a", "Ns", "txt", "IXFR", "AXFR", "PTR", "AA", "1", "IN", '"A"', "*", "A.", "$", ";"):
            self.refuse(InvalidLine, [f"a 5 {kind} 1"])
            self.refuse(InvalidLine, ["$TTL 5", f"a {kind} 1"])

    def test_two_ttls_and_other_orders(self):
        for line in ("a 5 6 A 1", "a A 5 1", "a 5 IN A 1", "5 a A 1", "a 1 A", "A 1", "5 A 1 a"):
            self.refuse(InvalidLine, [line])
            self.refuse(InvalidLine, ["$TTL 5", line])

    def test_quoted_strings_where_none_may_stand(self):
        for line in ('"a" 5 A 1', 'a "5" A 1', 'a 5 A "1"', 'a 5 NS "c"', 'a 5 CNAME "c"', 'a 5 MX "1" c',
                     'a 5 MX 1 "c"', 'a 5 SOA "c" 1 2 3 4 5', 'a 5 SOA c 1 2 3 4 "5"', '"" 5 A 1', 'a 5 "A" 1'):
            self.refuse(InvalidLine, [line])
            self.refuse(InvalidLine, ["$TTL 5", line])

    def test_other_words_where_a_quoted_string_must_stand(self):
        for word in ("x", "5", "@", "'x'", "\\\"x\"", "x\"x\""):
            self.refuse(InvalidLine, [f"a 5 TXT {word}"])

    def test_words_that_are_no_numbers(self):
        for word in ("x", "-1", "+1", "12345678901", "00000000000", "1_0", "0x1", "@", "1e3", "1,000", "1a", "a1"):
            for line in ("a 5 A {}", "a 5 A 1.2.3.{}", "a 5 A {}.2.3.4", "a 5 MX {} c", "a 5 SOA c {} 2 3 4 5",
                         "a 5 SOA c 1 {} 3 4 5", "a 5 SOA c 1 2 {} 4 5", "a 5 SOA c 1 2 3 {} 5", "a 5 SOA c 1 2 3 4 {}"):
                self.refuse(InvalidLine, [line.format(word)])

    def test_addresses_with_another_number_of_parts(self):
        for word in ("1.2", "1.2.3", "1.2.3.4.5", ".", "1.", ".1", "1.2.3.", ".2.3.4", "1..3.4", "1.2..4", "1.2.3.4.",
                     "...", "....", "1.2.3.x", "1.2.3.-4", "1.2. 3.4"):
            self.refuse(InvalidLine, [f"a 5 A {word}"])


class NameErrorTest(ZoneFileCase):
    def test_wrong_names(self):
        for text in ("..", "a..", ".a", "a..b", "$", "a$.", "x" * 64, "x" * 64 + ".", "a/b", "**", "*a", "a,b", "@.",
                     "@a", "a@", "'a'", "\\a", "a\"", "(", "!"):
            for line in (f"{text} 5 A 1", f"a 5 NS {text}", f"a 5 CNAME {text}", f"a 5 MX 1 {text}",
                         f"a 5 SOA {text} 1 2 3 4 5"):
                self.refuse(InvalidName, [line])

    def test_the_largest_size(self):
        self.assertEqual(name_size(MOST), 255)
        over = LONG + ("y" * 62,)
        self.check([format_name(MOST) + " 5 A 1"], [(MOST, "A", 5, 1)])
        self.refuse(InvalidName, [format_name(over) + " 5 A 1"])
        relative, origin = ".".join(MOST[:2]), MOST[2:]
        for kind, data, value in [("NS", "", lambda name: name), ("CNAME", "", lambda name: name),
                                  ("MX", "7 ", lambda name: (7, name))]:
            self.check([f"@ 5 {kind} {data}{relative}"], [(origin, kind, 5, value(MOST))], origin)
            self.refuse(InvalidName, [f"@ 5 {kind} {data}{relative}"], 0, (origin[0], origin[1] + "y"))
            self.refuse(InvalidName, [f"@ 5 {kind} {data}x.{relative}"], 0, origin)
        self.check(["a 5 SOA " + format_name(MOST) + " 1 2 3 4 5"], [(("a", "b"), "SOA", 5, (MOST, 1, 2, 3, 4, 5))])
        self.refuse(InvalidName, ["a 5 SOA " + format_name(over) + " 1 2 3 4 5"])


class RangeErrorTest(ZoneFileCase):
    def test_addresses(self):
        for word in ("4294967296", "9999999999", "256.0.0.0", "0.256.0.0", "0.0.256.0", "0.0.0.256",
                     "0.0.0.9999999999", "300.300.300.300"):
            self.refuse(OutOfRange, [f"a 5 A {word}"])

    def test_the_numbers_of_soa(self):
        for at in range(5):
            numbers = ["4294967295"] * 5
            self.check(["a 5 SOA . " + " ".join(numbers)], [(("a", "b"), "SOA", 5, ((), *[2 ** 32 - 1] * 5))])
            for wrong in ("4294967296", "9999999999"):
                numbers[at] = wrong
                self.refuse(OutOfRange, ["a 5 SOA . " + " ".join(numbers)])

    def test_preferences(self):
        for word in ("65536", "4294967295", "9999999999", "0000065536"):
            self.refuse(OutOfRange, [f"a 5 MX {word} c"])

    def test_long_strings(self):
        self.check(["a 5 TXT \"" + "x" * 255 + "\""], [(("a", "b"), "TXT", 5, "x" * 255)])
        for many in (256, 257, 1000):
            self.refuse(OutOfRange, ["a 5 TXT \"" + "x" * many + "\""])


class OrderTest(ZoneFileCase):
    def test_the_order_of_the_cases_of_one_line(self):
        # Each line has all of the errors from its own one on.
        self.refuse(InvalidText, ["$ 2147483648 MX 65536 x \"x\"y"])
        self.refuse(InvalidLine, ["$ 2147483648 MX 65536 x x"])
        self.refuse(InvalidName, ["$ 2147483648 MX 65536 x"])
        self.refuse(OutOfRange, ["d 2147483648 MX 65536 x"])

    def test_two_errors_in_a_line(self):
        self.refuse(InvalidText, ["a 5 A \"x"])
        self.refuse(InvalidText, ["a 5 PTR \"x"])
        self.refuse(InvalidText, ["$ 5 TXT \"" + "x" * 256])
        self.refuse(InvalidText, ["a 2147483648 TXT \"x\"y"])
        self.refuse(InvalidLine, ["$ 5 TXT x"])
        self.refuse(InvalidLine, ["$ 5 A 1.2"])
        self.refuse(InvalidLine, ["a 5 MX x $"])
        self.refuse(InvalidLine, ["a 2147483648 A x"])
        self.refuse(InvalidLine, ["a 2147483648 A"])
        self.refuse(InvalidLine, ["$ A 1"])
        self.refuse(InvalidLine, [" A 4294967296"])
        self.refuse(InvalidLine, ["$TTL 2147483648 x"])
        self.refuse(InvalidLine, ["$ORIGIN $ $"])
        self.refuse(InvalidName, ["$ 2147483648 A 1"])
        self.refuse(InvalidName, ["$ 5 A 256.1.1.1"])
        self.refuse(InvalidName, ["a 5 MX 65536 $"])
        self.refuse(InvalidName, ["a 5 SOA $ 4294967296 1 2 3 4"])
        self.refuse(InvalidName, ["$ 5 TXT \"" + "x" * 256 + "\""])

    def test_the_first_line_with_an_error(self):
        text, words, name, number = "a 5 TXT \"x", "a 5", "$ 5 A 1", "a 5 A 4294967296"
        errors = {text: InvalidText, words: InvalidLine, name: InvalidName, number: OutOfRange}
        for first, error in errors.items():
            for second in errors:
                self.refuse(error, ["a 5 A 1", "; x", first, second, "a 5 A 1"], 2)
        self.refuse(InvalidLine, ["$TTL 5", "", "a", "$TTL 2147483648", "$ORIGIN $"], 2)

    def test_places(self):
        for many in (0, 1, 2, 9):
            for before in ("", "a 5 A 1", "; x", "$TTL 5", "$ORIGIN c."):
                self.refuse(InvalidName, [before] * many + ["$ 5 A 1"] + ["x"] * 2, many)


class WriteTest(unittest.TestCase):
    def check(self, record, line):
        self.assertEqual(write_zone_file([record]), [line])
        for origin in [(), ("b",)]:
            self.assertEqual(read_zone_file([line], origin), [record])

    def test_no_records(self):
        self.assertEqual(write_zone_file([]), [])

    def test_each_kind(self):
        self.check((("www", "b"), "A", 60, 258), "www.b. 60 A 258")
        self.check(((), "A", 0, 0), ". 0 A 0")
        self.check((("*", "b"), "A", 2147483647, 2 ** 32 - 1), "*.b. 2147483647 A 4294967295")
        self.check((("a",), "NS", 5, ("c", "d")), "a. 5 NS c.d.")
        self.check((("a",), "NS", 5, ()), "a. 5 NS .")
        self.check((("a",), "CNAME", 5, ("-", "_")), "a. 5 CNAME -._.")
        self.check((("a",), "SOA", 5, (("s",), 1, 0, 3, 4, 2 ** 32 - 1)), "a. 5 SOA s. 1 0 3 4 4294967295")
        self.check((("a",), "MX", 5, (65535, ("m",))), "a. 5 MX 65535 m.")
        self.check((("a",), "TXT", 5, "x y"), 'a. 5 TXT "x y"')
        self.check((("a",), "TXT", 5, ""), 'a. 5 TXT ""')
        self.check((("a",), "TXT", 5, " ; ' \\ "), 'a. 5 TXT " ; \' \\ "')

    def test_the_bounds(self):
        self.check((MOST, "TXT", 2147483647, "x" * 255), format_name(MOST) + ' 2147483647 TXT "' + "x" * 255 + '"')
        self.check((("a",), "MX", 1, (0, MOST)), "a. 1 MX 0 " + format_name(MOST))

    def test_a_line_for_each_record_in_order(self):
        records = [(("b",), "A", 1, 2), (("a",), "A", 1, 1), (("b",), "A", 1, 2)]
        self.assertEqual(write_zone_file(records), ["b. 1 A 2", "a. 1 A 1", "b. 1 A 2"])

    def test_limits_that_are_passed_raise_no_error(self):
        records = [(LONG + LONG, "TXT", 2 ** 31, "x" * 300), (("x" * 70,), "MX", 2 ** 40, (65536, ())),
                   (("a",), "A", 1, 2 ** 33)]
        self.assertEqual(write_zone_file(records)[1:],
                         ["x" * 70 + ". 1099511627776 MX 65536 .", "a. 1 A 8589934592"])

    def test_what_was_written_is_read_as_the_same_records(self):
        source = random.Random(20)
        for _ in range(300):
            records = []
            for kind in source.choices(RECORD_KINDS, k=source.randint(0, 8)):
                value = some_value(source, kind)
                if kind == "TXT":
                    value = value.replace('"', "")
                records.append((some_name(source), kind, source.choice([0, 1, 86400, 2147483647]), value))
            lines = write_zone_file(records)
            self.assertEqual(len(lines), len(records))
            self.assertEqual(read_zone_file(lines, some_name(source)), records)
            self.assertEqual(read_in_another_way(lines, some_name(source)), records)


class RandomTest(unittest.TestCase):
    WORDS = ["a", "B", "@", ".", "*", "c.", "a.B.", "5", "007", "4294967295", "65536", "2147483648", "12345678901",
             "1.2.3.4", "1.2.3.256", "1.2.3", "A", "NS", "CNAME", "SOA", "MX", "TXT", '"x"', '"x;y"', '""', '"', "$",
             "a..b", "$TTL", "$ORIGIN", ";", "; x", 'a"b', "PTR"]
    LINES = ["a 5 A 1", "a A 1.2.3.4", " A 7", " 6 NS c", "$TTL 5", "$ORIGIN c", "$ORIGIN d.", "b 5 MX 7 @", "",
             "@ 5 SOA s 1 2 3 4 5", 'x TXT "a b"', '  7 TXT "q;"; z', "c CNAME A.", "; z"]

    def changed(self, source, line):
        """A line with some words exchanged, left out or put in, or with another beginning."""
        words = re.findall('"[^"]*"|[^ ]+', line)
        for _ in range(source.choice([0, 1, 1, 1, 2])):
            at = source.randint(0, len(words))
            if source.random() < 0.7:
                words[at:at + 1] = [source.choice(self.WORDS)]
            else:
                words[at:at + source.randint(0, 1)] = source.sample(self.WORDS, source.randint(0, 1))
        text = source.choice([" ", " ", "  "]).join(words)
        return " " + text if line.startswith(" ") != (source.random() < 0.05) else text

    def test_random_lines_against_another_reader(self):
        source = random.Random(17)
        found = {}
        for _ in range(20000):
            lines = ["$TTL 8", "o 9 A 1"] + [source.choice(self.LINES) for _ in range(source.randint(0, 3))]
            del lines[:source.choice([0, 0, 1, 2])]
            lines.append(self.changed(source, source.choice(self.LINES)))
            try:
                result = read_zone_file(lines, ORIGIN)
            except (InvalidText, InvalidLine, InvalidName, OutOfRange) as error:
                result = error.__class__, error.place
            self.assertEqual(result, read_in_another_way(lines, ORIGIN), lines)
            key = result[0] if isinstance(result, tuple) else len(result)
            found[key] = found.get(key, 0) + 1
        for key in (InvalidText, InvalidLine, InvalidName, OutOfRange, 0, 1, 2, 3):
            self.assertGreater(found[key], 50, found)


class ArgumentsTest(unittest.TestCase):
    def test_the_arguments_do_not_change(self):
        lines = ["$TTL 5", "$ORIGIN c", "a A 1", ' TXT "x"', "a 5 SOA s 1 2 3 4 5"]
        before = list(lines)
        records = read_zone_file(lines, ORIGIN)
        self.assertEqual(lines, before)
        before = copy.deepcopy(records)
        write_zone_file(records).clear()
        self.assertEqual(records, before)
        with self.assertRaises(InvalidLine):
            read_zone_file([*lines, "x"], ORIGIN)
        records.clear()
        self.assertEqual(read_zone_file(lines, ORIGIN), before)
