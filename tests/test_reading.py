"""Tests of zoneward.reading: points 1, 2, 10, 11 and 12."""

import copy
import inspect
import random
import unittest

from helper import QUERY_CODES, RECORD_KINDS, label_bytes, number_bytes, some_message

from zoneward.errors import (InvalidForm, InvalidName, InvalidPointer, InvalidText, ReservedValue, Truncated,
                             ZonewardError)
from zoneward.messages import Message, write_message
from zoneward.reading import read_message, read_name

LETTERS = "abcdefghijklmnopqrstuvwxyz"
LABEL_CODES = [ord(character) for character in LETTERS + LETTERS.upper() + "0123456789-_"]
RECORD_CODES = {QUERY_CODES[kind]: kind for kind in RECORD_KINDS}
# The question for the root and the kind A, which stands at the places 12 to 16 where nothing else is said.
QUESTION = [0, 0, 1, 0, 1]


def header(counts=(0, 0, 0), number=0, flags=0, questions=1):
    words = [number, flags, questions, *counts]
    return [byte for word in words for byte in number_bytes(word, 2)]


def record_bytes(code, data, name=(0,), ttl=0, class_number=1, length=None):
    length = len(data) if length is None else length
    return (list(name) + number_bytes(code, 2) + number_bytes(class_number, 2) + number_bytes(ttl, 4)
            + number_bytes(length, 2) + list(data))


def with_record(code, data, **others):
    """A message with one record, which begins at the place 17. The data begin at 28 if the owner is the root."""
    return header((1, 0, 0)) + QUESTION + record_bytes(code, data, **others)


def read_in_another_way(data):
    """A reader by recursion: the fields of a message, or the class of an error and its place."""
    def fail(name, place):
        raise StopIteration(name, place)

    def need(end):
        if end > len(data):
            fail("Truncated", len(data))

    def number(place, width):
        need(place + width)
        return int.from_bytes(data[place:place + width], "big")

    def name_from(place, run, before, start):
        """The labels from a place on, and the place behind them."""
        first = number(place, 1)
        if first == 0:
            return before, place + 1
        if first >= 192:
            target = number(place, 2) - 49152
            if target >= run:
                fail("InvalidPointer", place)
            return name_from(target, target, before, start)[0], place + 2
        if first >= 64:
            fail("ReservedValue", place)
        need(place + 1 + first)
        label = "".join(map(chr, data[place + 1:place + 1 + first]))
        for at, character in enumerate(label):
            if ord(character) not in LABEL_CODES and label != "*":
                fail("InvalidName", place + 1 + at)
        labels = before + (label.lower(),)
        if sum(len(each) + 1 for each in labels) + 1 > 255:
            fail("InvalidName", start)
        return name_from(place + 1 + first, run, labels, start)

    def name(place):
        return name_from(place, place, (), place)

    def kind(place, kinds):
        code = number(place, 2)
        if code not in kinds:
            fail("ReservedValue", place)
        if number(place + 2, 2) != 1:
            fail("ReservedValue", place + 2)
        return kinds[code]

    def value(place, found):
        if found == "A":
            return number(place, 4), place + 4
        if found == "MX":
            preference = number(place, 2)
            server, place = name(place + 2)
            return (preference, server), place
        if found == "SOA":
            primary, place = name(place)
            place = name(place)[1]
            numbers = [number(place + at, 4) for at in range(0, 20, 4)]
            return (primary, *numbers), place + 20
        if found == "TXT":
            end = place + 1 + number(place, 1)
            need(end)
            for at in range(place + 1, end):
                if not 32 <= data[at] <= 126 or data[at] == 37:
                    fail("InvalidText", at)
            return "".join(map(chr, data[place + 1:end])), end
        return name(place)

    def message():
        flags = [number(0, 2), number(2, 2)][1]
        if flags & 0b0111101011110000:
            fail("ReservedValue", 2)
        if number(4, 2) != 1:
            fail("InvalidForm", 4)
        counts = [number(6, 2), number(8, 2), number(10, 2)]
        owner, place = name(12)
        question = (owner, kind(place, {code: word for word, code in QUERY_CODES.items()}))
        place += 4
        lists = []
        for count in counts:
            lists.append([])
            for _ in range(count):
                owner, place = name(place)
                word = kind(place, RECORD_CODES)
                ttl = number(place + 4, 4)
                if ttl >= 2 ** 31:
                    fail("ReservedValue", place + 4)
                begin = place + 10
                end = begin + number(place + 8, 2)
                need(end)
                found, place = value(begin, word)
                if place != end:
                    fail("InvalidForm", begin)
                lists[-1].append((owner, word, ttl, found))
        if place != len(data):
            fail("InvalidForm", place)
        return (number(0, 2), question, flags >= 32768, flags & 1024 != 0, flags & 256 != 0, flags & 15, *lists)

    try:
        return message()
    except StopIteration as failure:
        return failure.args


class ReadingCase(unittest.TestCase):
    def refuse(self, data, error, place):
        self.refuse_call(lambda: read_message(data), data, error, place)

    def refuse_call(self, call, data, error, place):
        with self.subTest(data=data):
            with self.assertRaises(ZonewardError) as context:
                call()
            self.assertEqual((context.exception.__class__.__name__, context.exception.place), (error.__name__, place))

    def accept(self, data, *fields):
        with self.subTest(data=data):
            self.assertEqual(read_message(data).fields(), fields)


class InterfaceTest(unittest.TestCase):
    def test_the_functions_and_their_arguments(self):
        for function, signature in [(read_name, "(data, place)"), (read_message, "(data)")]:
            self.assertEqual(str(inspect.signature(function)), signature)
            self.assertEqual(function.__module__, "zoneward.reading")


class ReadNameTest(ReadingCase):
    def check(self, data, place, name, behind):
        with self.subTest(data=data, place=place):
            found = read_name(data, place)
            self.assertIs(found.__class__, tuple)
            self.assertIs(found[0].__class__, tuple)
            self.assertEqual(found, (name, behind))

    def refuse_name(self, data, place, error, where):
        self.refuse_call(lambda: read_name(data, place), data, error, where)

    def test_the_examples_of_the_document(self):
        self.assertEqual(read_name([1, 98, 0, 1, 65, 192, 0, 7], 3), (("a", "b"), 7))
        self.refuse_name([1, 98, 192, 0], 0, InvalidPointer, 2)

    def test_names_without_pointers(self):
        self.check([0], 0, (), 1)
        self.check([0, 0, 9], 1, (), 2)
        self.check([1, 97, 0], 0, ("a",), 3)
        self.check([9, 9, 2, 97, 98, 1, 99, 0, 9], 2, ("ab", "c"), 8)
        self.check([63] + [120] * 63 + [0], 0, ("x" * 63,), 65)

    def test_each_character_of_a_label(self):
        for code in range(256):
            for before, behind in [([], []), ([97], []), ([], [98]), ([97, 45], [98, 95])]:
                label = before + [code] + behind
                data = [7, len(label)] + label + [0]
                if code in LABEL_CODES:
                    self.check(data, 1, ("".join(map(chr, label)).lower(),), len(data))
                elif label == [42]:
                    self.check(data, 1, ("*",), len(data))
                else:
                    self.refuse_name(data, 1, InvalidName, 2 + len(before))

    def test_upper_case_letters(self):
        self.check([26] + [ord(letter) for letter in LETTERS.upper()] + [0], 0, (LETTERS,), 28)
        self.check([3, 87, 119, 87, 1, 90, 0], 0, ("www", "z"), 7)

    def test_the_star_is_a_label_wherever_it_stands(self):
        self.check([1, 42, 1, 119, 0], 0, ("*", "w"), 5)
        self.check([1, 97, 1, 42, 1, 42, 0], 0, ("a", "*", "*"), 7)
        self.refuse_name([2, 42, 42, 0], 0, InvalidName, 1)
        self.refuse_name([2, 42, 97, 0], 0, InvalidName, 1)
        self.refuse_name([2, 97, 42, 0], 0, InvalidName, 2)

    def test_the_first_wrong_character_counts(self):
        self.refuse_name([1, 97, 5, 98, 32, 33, 98, 255, 0], 0, InvalidName, 4)
        self.refuse_name([1, 97, 1, 46, 1, 37, 0], 0, InvalidName, 3)

    def test_each_length_byte(self):
        for length in range(256):
            data = [0, length] + [97] * 70 + [0]
            data[2 + min(length, 63)] = 0
            if length == 0:
                self.check(data, 1, (), 2)
            elif length <= 63:
                self.check(data, 1, ("a" * length,), 3 + length)
            elif length <= 191:
                self.refuse_name(data, 1, ReservedValue, 1)
            else:
                self.refuse_name(data, 1, InvalidPointer, 1)

    def test_a_reserved_length_byte_behind_other_labels(self):
        for length in (64, 65, 127, 128, 191):
            self.refuse_name([0, 1, 97, length], 1, ReservedValue, 3)
            self.refuse_name([1, 97, length, 192, 0], 3, ReservedValue, 2)
        # It is found before its label could be missing, and before the name could be too long.
        self.refuse_name(([63] + [97] * 63) * 3 + [61] + [97] * 61 + [64], 0, ReservedValue, 254)

    def test_pointers(self):
        self.check([0, 192, 0], 1, (), 3)
        self.check([1, 97, 0, 192, 0, 5], 3, ("a",), 5)
        self.check([1, 97, 0, 1, 98, 192, 0, 5], 3, ("b", "a"), 7)
        self.check([1, 97, 1, 98, 0, 192, 2], 5, ("b",), 7)
        self.check([1, 97, 1, 98, 0, 192, 4], 5, (), 7)
        # The bytes of any earlier part are read as a name.
        self.check([5, 1, 120, 0, 192, 1], 4, ("x",), 6)

    def test_several_pointers_one_after_another(self):
        data = [1, 97, 0, 1, 98, 192, 0, 1, 99, 192, 3, 192, 7, 192, 11, 1, 100, 192, 13]
        self.check(data, 3, ("b", "a"), 7)
        self.check(data, 7, ("c", "b", "a"), 11)
        self.check(data, 11, ("c", "b", "a"), 13)
        self.check(data, 13, ("c", "b", "a"), 15)
        self.check(data, 15, ("d", "c", "b", "a"), 19)

    def test_a_long_chain_of_pointers(self):
        data = [0]
        for at in range(5000):
            data += number_bytes(49152 + (len(data) - 2 if at else 0), 2)
        self.check(data, len(data) - 2, (), len(data))

    def test_targets_of_two_bytes(self):
        data = [0] * 300 + [1, 97, 0, 193, 44]
        self.check(data, 303, ("a",), 305)
        data = [0] * 16383 + [1, 97, 0, 255, 255]
        self.check(data, 16386, ("a",), 16388)

    def test_a_pointer_to_the_place_of_the_current_run(self):
        self.refuse_name([192, 0], 0, InvalidPointer, 0)
        self.refuse_name([0, 192, 1], 1, InvalidPointer, 1)
        self.refuse_name([0, 1, 97, 192, 1], 1, InvalidPointer, 3)
        self.check([0, 1, 97, 192, 0], 1, ("a",), 5)

    def test_a_pointer_into_the_current_run_or_behind_it(self):
        for target in range(2, 12):
            self.refuse_name([0, 0, 1, 97, 1, 98, 192, target, 0, 0, 0, 0, 0], 2, InvalidPointer, 6)
        self.refuse_name([0, 0, 192, 3, 0], 2, InvalidPointer, 2)
        self.refuse_name([0, 255, 255], 1, InvalidPointer, 1)

    def test_a_further_run_begins_at_the_target_of_its_pointer(self):
        # The run at 2 was reached from 6, so that a pointer in it to 3 is not allowed, though 3 is less than 6.
        for target in (2, 3, 4, 5, 6):
            self.refuse_name([0, 0, 1, 97, 192, target, 192, 2], 6, InvalidPointer, 4)
        self.check([0, 0, 1, 97, 192, 1, 192, 2], 6, ("a",), 8)
        self.refuse_name([192, 0, 192, 0], 2, InvalidPointer, 0)
        self.refuse_name([0, 192, 1, 192, 1], 3, InvalidPointer, 1)

    def test_the_part_of_the_name_ends_behind_its_first_pointer(self):
        data = [0, 1, 97, 192, 0, 1, 98, 192, 1, 1, 99, 0]
        self.check(data, 5, ("b", "a"), 9)
        self.check(data, 3, (), 5)

    def test_truncated(self):
        self.refuse_name([], 0, Truncated, 0)
        self.refuse_name([0], 1, Truncated, 1)
        self.refuse_name([1], 0, Truncated, 1)
        self.refuse_name([1, 97], 0, Truncated, 2)
        self.refuse_name([3, 97, 98], 0, Truncated, 3)
        self.refuse_name([63] + [97] * 62, 0, Truncated, 63)
        self.refuse_name([0, 192], 1, Truncated, 2)
        self.refuse_name([0, 1, 97, 255], 1, Truncated, 4)
        self.refuse_name([1, 97, 9, 97, 98, 192, 2, 97], 5, Truncated, 8)

    def test_a_label_that_is_not_complete_comes_before_its_characters(self):
        self.refuse_name([2, 37], 0, Truncated, 2)
        self.refuse_name([1, 33, 2, 97], 0, InvalidName, 1)
        self.refuse_name([63] + [0] * 62, 0, Truncated, 63)

    def test_the_second_byte_of_a_pointer_comes_before_its_target(self):
        self.refuse_name([192], 0, Truncated, 1)
        self.refuse_name([255], 0, Truncated, 1)

    def test_the_size(self):
        labels = [63] + [97] * 63
        largest = labels * 3 + [61] + [98] * 61 + [0]
        self.check(largest, 0, ("a" * 63,) * 3 + ("b" * 61,), 255)
        self.refuse_name(labels * 3 + [62] + [98] * 62 + [0], 0, InvalidName, 0)
        self.refuse_name([9] + labels * 3 + [62] + [98] * 62 + [0], 1, InvalidName, 1)
        self.check([0, 0] + [1, 97] * 127 + [0], 2, ("a",) * 127, 257)
        self.refuse_name([0, 0] + [1, 97] * 128 + [0], 2, InvalidName, 2)

    def test_the_size_is_checked_after_each_label(self):
        labels = [63] + [97] * 63
        for tail in ([], [64], [255], [200, 0], [1], [1, 33, 0]):
            self.refuse_name([5] + labels * 4 + tail, 1, InvalidName, 1)
        self.refuse_name(labels * 3 + [62] + [98] * 61 + [33, 0], 0, InvalidName, 254)
        self.refuse_name(labels * 3 + [62] + [98] * 61, 0, Truncated, 254)
        self.refuse_name(labels * 3 + [61] + [98] * 61, 0, Truncated, 254)
        self.refuse_name(labels * 3 + [61] + [98] * 61 + [1, 97], 0, InvalidName, 0)
        self.refuse_name(labels * 3 + [61] + [98] * 61 + [1], 0, Truncated, 255)

    def test_the_size_counts_the_labels_behind_pointers(self):
        labels = [63] + [97] * 63
        data = labels * 3 + [0]
        self.check(data + [61] + [98] * 61 + [192, 0], 193, ("b" * 61,) + ("a" * 63,) * 3, 257)
        self.refuse_name(data + [62] + [98] * 62 + [192, 0], 193, InvalidName, 193)
        self.check(data + [62] + [98] * 62 + [192, 64], 193, ("b" * 62,) + ("a" * 63,) * 2, 258)

    def test_the_argument_does_not_change(self):
        data = [1, 98, 0, 1, 65, 192, 0, 7]
        read_name(data, 3)
        self.assertEqual(data, [1, 98, 0, 1, 65, 192, 0, 7])


class HeaderTest(ReadingCase):
    def test_a_message_without_records(self):
        self.accept(header(number=4660) + QUESTION, 4660, ((), "A"), False, False, False, 0, [], [], [])

    def test_the_example_of_a_written_message(self):
        data = [0, 7, 1, 0, 0, 1, 0, 0, 0, 0, 0, 0, 1, 97, 1, 98, 0, 0, 1, 0, 1]
        self.assertEqual(read_message(data), Message(7, (("a", "b"), "A"), recursion=True))

    def test_all_flags(self):
        used = 32768 + 1024 + 256 + 15
        for flags in range(65536):
            data = [0, 0, flags >> 8, flags & 255] + header()[4:] + QUESTION
            if flags & used == flags:
                message = read_message(data)
                self.assertEqual(
                    (message.response, message.authoritative, message.recursion, message.code),
                    (flags & 32768 != 0, flags & 1024 != 0, flags & 256 != 0, flags & 15))
                self.assertEqual({message.response.__class__, message.authoritative.__class__,
                                  message.recursion.__class__}, {bool})
            elif flags.bit_count() < 3 or flags & 4095 == 5:
                self.refuse(data, ReservedValue, 2)

    def test_each_other_flag(self):
        for bit in (4, 5, 6, 7, 9, 11, 12, 13, 14):
            self.refuse(header(flags=2 ** bit) + QUESTION, ReservedValue, 2)
            self.refuse(header(flags=2 ** bit + 32768 + 1024 + 256 + 3) + QUESTION, ReservedValue, 2)

    def test_the_number_of_questions(self):
        for questions in (0, 2, 255, 256, 257, 65535):
            self.refuse(header(questions=questions) + QUESTION, InvalidForm, 4)
            self.refuse(header(questions=questions) + QUESTION * questions, InvalidForm, 4)

    def test_the_order_of_the_parts(self):
        self.refuse(header(flags=16, questions=2) + QUESTION, ReservedValue, 2)
        self.refuse([0, 0, 0, 16], ReservedValue, 2)
        self.refuse([0, 0, 0], Truncated, 3)
        self.refuse([0, 0, 0, 0, 0], Truncated, 5)
        self.refuse([0, 0, 0, 0, 0, 2], InvalidForm, 4)
        self.refuse([0, 0, 0, 0, 0, 1, 0], Truncated, 7)
        self.refuse(header(questions=3) + [64], InvalidForm, 4)

    def test_a_byte_list_that_ends_in_the_header(self):
        for length in range(12):
            self.refuse(header((1, 2, 3))[:length], Truncated, length)

    def test_the_lists_are_told_apart_by_their_numbers(self):
        records = [((), "A", 1, at) for at in range(3)]
        written = [byte for at in range(3) for byte in record_bytes(1, [0, 0, 0, at], ttl=1)]
        for first in range(4):
            for second in range(4 - first):
                third = 3 - first - second
                self.accept(header((first, second, third)) + QUESTION + written,
                            0, ((), "A"), False, False, False, 0, records[:first],
                            records[first:first + second], records[first + second:])

    def test_numbers_of_records_that_are_wrong(self):
        written = record_bytes(1, [0, 0, 0, 9])
        for counts in [(1, 1, 0), (0, 2, 0), (0, 0, 65535), (65535, 65535, 65535)]:
            self.refuse(header(counts) + QUESTION + written, Truncated, 32)
        self.refuse(header((0, 0, 0)) + QUESTION + written, InvalidForm, 17)
        self.refuse(header((1, 0, 0)) + QUESTION + written + written, InvalidForm, 32)


class QuestionTest(ReadingCase):
    def test_each_code(self):
        kinds = {code: kind for kind, code in QUERY_CODES.items()}
        for code in list(range(300)) + [65535, 65286, 1536, 256, 512]:
            data = header() + [0] + number_bytes(code, 2) + [0, 1]
            if code in kinds:
                self.assertEqual(read_message(data).question, ((), kinds[code]))
            else:
                self.refuse(data, ReservedValue, 13)

    def test_the_class_number(self):
        for number in (0, 2, 255, 256, 257, 65535):
            self.refuse(header() + [1, 97, 0, 0, 1] + number_bytes(number, 2), ReservedValue, 17)

    def test_the_order_of_the_parts(self):
        self.refuse(header() + [0, 0], Truncated, 14)
        self.refuse(header() + [0, 0, 3], ReservedValue, 13)
        self.refuse(header() + [0, 0, 1, 0], Truncated, 16)
        self.refuse(header() + [0, 0, 3, 0, 2], ReservedValue, 13)
        self.refuse(header() + [64, 0, 3, 0, 2], ReservedValue, 12)
        self.refuse(header() + [1, 32, 0, 0, 3], InvalidName, 13)

    def test_names(self):
        self.assertEqual(read_message(header() + [1, 65, 1, 42, 0, 0, 252, 0, 1]).question, (("a", "*"), "AXFR"))
        self.refuse(header() + [1, 97, 192, 12, 0, 1, 0, 1], InvalidPointer, 14)
        # The header is before the name, so that a pointer may lead there.
        self.assertEqual(read_message(header() + [1, 97, 192, 2, 0, 1, 0, 1]).question, (("a",), "A"))
        self.refuse(header(number=25700) + [192, 0, 0, 1, 0, 1], ReservedValue, 0)

    def test_the_question_is_a_pair(self):
        self.assertIs(read_message(header() + QUESTION).question.__class__, tuple)

    def test_bytes_behind_it(self):
        for rest in ([0], [255], [0] * 100):
            self.refuse(header() + QUESTION + rest, InvalidForm, 17)


class RecordTest(ReadingCase):
    def value(self, code, data):
        message = read_message(with_record(code, data))
        (name, kind, ttl, value), = message.answer
        self.assertEqual((name, kind, ttl), ((), RECORD_CODES[code], 0))
        return value

    def test_a_record(self):
        data = with_record(1, [1, 2, 3, 4], name=[1, 97, 0], ttl=258)
        self.accept(data, 0, ((), "A"), False, False, False, 0, [(("a",), "A", 258, 16909060)], [], [])
        self.assertIs(read_message(data).answer[0].__class__, tuple)

    def test_each_code(self):
        data = {1: [0, 0, 0, 9], 2: [0], 5: [0], 6: [0, 0] + [0] * 20, 15: [0, 0, 0], 16: [0]}
        for code in list(range(300)) + [65535, 257, 1536]:
            if code in data:
                self.assertEqual(read_message(with_record(code, data[code])).answer[0][1], RECORD_CODES[code])
            else:
                self.refuse(with_record(code, [0, 0, 0, 9]), ReservedValue, 18)

    def test_query_kinds_are_no_kinds_of_records(self):
        for code in (251, 252):
            for counts in [(1, 0, 0), (0, 1, 0), (0, 0, 1)]:
                self.refuse(header(counts) + QUESTION + record_bytes(code, [0]), ReservedValue, 18)

    def test_the_class_number(self):
        for number in (0, 2, 3, 255, 256, 65535):
            self.refuse(with_record(1, [0, 0, 0, 9], class_number=number), ReservedValue, 20)

    def test_the_ttl(self):
        for ttl in (0, 1, 2147483646, 2147483647):
            self.assertEqual(read_message(with_record(1, [0, 0, 0, 9], ttl=ttl)).answer, [((), "A", ttl, 9)])
        for ttl in (2147483648, 2147483649, 4294967295):
            self.refuse(with_record(1, [0, 0, 0, 9], ttl=ttl), ReservedValue, 22)

    def test_the_order_of_the_parts(self):
        whole = with_record(3, [0, 0, 0], class_number=2, ttl=2147483648, length=4)
        self.refuse(whole, ReservedValue, 18)
        self.refuse(whole[:20], ReservedValue, 18)
        self.refuse(whole[:19], Truncated, 19)
        whole[19] = 1
        self.refuse(whole, ReservedValue, 20)
        self.refuse(whole[:22], ReservedValue, 20)
        self.refuse(whole[:21], Truncated, 21)
        whole[21] = 1
        self.refuse(whole, ReservedValue, 22)
        self.refuse(whole[:26], ReservedValue, 22)
        self.refuse(whole[:25], Truncated, 25)
        whole[22] = 0
        self.refuse(whole, Truncated, 31)
        self.refuse(whole[:27], Truncated, 27)
        self.refuse(whole + [0, 7], InvalidForm, 32)
        self.refuse(with_record(3, [], name=[65]), ReservedValue, 17)

    def test_a_fault_of_an_earlier_record_comes_first(self):
        data = header((1, 1, 0)) + QUESTION + record_bytes(16, [1, 37]) + record_bytes(3, [])
        self.refuse(data, InvalidText, 29)
        data = header((1, 0, 1)) + QUESTION + record_bytes(16, [1, 36]) + record_bytes(3, [])
        self.refuse(data, ReservedValue, 31)

    def test_addresses(self):
        for value in (0, 1, 255, 256, 2 ** 31, 2 ** 32 - 1):
            self.assertEqual(self.value(1, number_bytes(value, 4)), value)

    def test_names_as_data(self):
        for code in (2, 5):
            self.assertEqual(self.value(code, [0]), ())
            self.assertEqual(self.value(code, [2, 65, 98, 1, 99, 0]), ("ab", "c"))
            self.assertEqual(self.value(code, [1, 97, 192, 12]), ("a",))
            self.refuse(with_record(code, [1, 32, 0]), InvalidName, 29)
            self.refuse(with_record(code, [192, 28]), InvalidPointer, 28)
            self.refuse(with_record(code, [1, 97, 192, 29]), InvalidPointer, 30)
            self.refuse(with_record(code, [150]), ReservedValue, 28)

    def test_soa(self):
        numbers = [byte for number in (1, 4294967295, 3, 65536, 5) for byte in number_bytes(number, 4)]
        value = (("s",), 1, 4294967295, 3, 65536, 5)
        self.assertEqual(self.value(6, [1, 115, 0, 0] + numbers), value)
        self.assertEqual(self.value(6, [0, 0] + numbers), ((), *value[1:]))
        self.assertIs(self.value(6, [0, 0] + numbers).__class__, tuple)

    def test_the_empty_name_of_a_soa_may_be_any_name(self):
        numbers = [0, 0, 0, 1, 0, 0, 0, 2, 0, 0, 0, 3, 0, 0, 0, 4, 0, 0, 0, 5]
        value = (("s",), 1, 2, 3, 4, 5)
        for second in ([1, 97, 0], [192, 12], [192, 28], [1, 42, 192, 28], [63] + [97] * 63 + [0]):
            self.assertEqual(self.value(6, [1, 115, 0] + second + numbers), value)

    def test_the_empty_name_of_a_soa_is_checked(self):
        numbers = [0] * 20
        self.refuse(with_record(6, [1, 115, 0, 1, 46, 0] + numbers), InvalidName, 32)
        self.refuse(with_record(6, [1, 115, 0, 64] + numbers), ReservedValue, 31)
        self.refuse(with_record(6, [1, 115, 0, 192, 31] + numbers), InvalidPointer, 31)
        self.refuse(with_record(6, [1, 115, 0] + [1, 97] * 128 + [0] + numbers), InvalidName, 31)
        self.refuse(with_record(6, [1, 115, 0, 63]), Truncated, 32)

    def test_mx(self):
        self.assertEqual(self.value(15, [0, 0, 0]), (0, ()))
        self.assertEqual(self.value(15, [255, 254, 1, 77, 0]), (65534, ("m",)))
        self.assertIs(self.value(15, [0, 0, 0]).__class__, tuple)
        self.refuse(with_record(15, [0, 1, 1, 43, 0]), InvalidName, 31)

    def test_txt(self):
        self.assertEqual(self.value(16, [0]), "")
        self.assertEqual(self.value(16, [3, 32, 126, 90]), " ~Z")
        self.assertEqual(self.value(16, [255] + [120] * 255), "x" * 255)
        every = [code for code in range(32, 127) if code != 37]
        self.assertEqual(self.value(16, [94] + every), "".join(map(chr, every)))

    def test_each_character_of_a_txt_string(self):
        for code in range(256):
            if 32 <= code <= 126 and code != 37:
                self.assertEqual(self.value(16, [3, 97, code, 98]), "a" + chr(code) + "b")
            else:
                self.refuse(with_record(16, [3, 97, code, 98]), InvalidText, 30)
                self.refuse(with_record(16, [3, code, code, code]), InvalidText, 29)
                self.refuse(with_record(16, [3, 97, 98, code]), InvalidText, 31)

    def test_a_string_that_is_not_complete_comes_before_its_characters(self):
        self.refuse(with_record(16, [3, 37, 37]), Truncated, 31)
        self.refuse(with_record(16, [2, 37, 37]), InvalidText, 29)


class LengthTest(ReadingCase):
    """Data that are not as long as their length says."""

    VALUES = {1: [0, 0, 0, 9], 2: [1, 97, 0], 5: [1, 97, 1, 98, 0], 6: [1, 115, 0, 0] + [0] * 20,
              15: [0, 1, 1, 109, 0], 16: [3, 97, 98, 99]}

    def test_data_that_are_longer_than_their_length(self):
        for code, data in self.VALUES.items():
            for length in range(len(data)):
                self.refuse(with_record(code, data, length=length), InvalidForm, 28)

    def test_data_that_are_shorter_than_their_length(self):
        for code, data in self.VALUES.items():
            for more in (1, 2, 50):
                self.refuse(with_record(code, data + [0] * more), InvalidForm, 28)
                self.refuse(with_record(code, data + [255] * more + [0]), InvalidForm, 28)

    def test_a_length_beyond_the_end_of_the_list(self):
        for code, data in self.VALUES.items():
            for length in (len(data) + 1, len(data) + 2, 65535):
                self.refuse(with_record(code, data, length=length), Truncated, 28 + len(data))

    def test_that_the_list_has_so_many_bytes_is_checked_first(self):
        self.refuse(with_record(16, [1, 37], length=3), Truncated, 30)
        self.refuse(with_record(2, [64], length=2), Truncated, 29)
        self.refuse(with_record(6, [1, 46, 0], length=24), Truncated, 31)

    def test_that_the_data_fill_their_length_is_checked_last(self):
        self.refuse(with_record(16, [1, 37, 0]), InvalidText, 29)
        self.refuse(with_record(2, [64, 0]), ReservedValue, 28)
        self.refuse(with_record(2, [192, 28, 0]), InvalidPointer, 28)
        self.refuse(with_record(15, [0, 0, 1, 46, 0, 0]), InvalidName, 31)

    def test_the_length_does_not_end_the_reading_of_the_data(self):
        for code, data in self.VALUES.items():
            for length in range(len(data)):
                self.refuse(with_record(code, data[:length]), Truncated, 28 + length)
        self.refuse(with_record(16, [1, 37], length=1), InvalidText, 29)

    def test_a_wrong_length_comes_before_the_bytes_that_remain(self):
        self.refuse(with_record(1, [0, 0, 0, 9, 0], length=3), InvalidForm, 28)
        self.refuse(with_record(1, [0, 0, 0, 9, 0], length=4), InvalidForm, 32)

    def test_the_place_counts_the_owner_and_the_records_before(self):
        data = header((2, 0, 0)) + QUESTION + record_bytes(1, [0, 0, 0, 9]) + record_bytes(1, [0] * 5, [1, 97, 0])
        self.refuse(data, InvalidForm, 45)


class WholeTest(ReadingCase):
    def test_what_was_written_is_read_as_an_equal_message(self):
        source = random.Random(12)
        for _ in range(600):
            message = some_message(source)
            data = write_message(message)
            found = read_message(data)
            self.assertIs(found.__class__, Message)
            self.assertEqual(found, message)
            self.assertEqual(found.fields(), message.fields())
            self.assertEqual(write_message(found), data)

    def test_long_messages(self):
        source = random.Random(13)
        for _ in range(5):
            message = some_message(source, 700)
            data = write_message(message)
            self.assertGreater(len(data), 16384)
            self.assertEqual(read_message(data), message)

    def test_the_largest_names_and_values(self):
        largest = ("a" * 61,) + ("x" * 63,) * 3
        message = Message(65535, (largest, "AXFR"), response=True, authoritative=True, recursion=True, code=15,
                          answer=[(largest, "CNAME", 2147483647, largest), (("b",) * 127, "NS", 0, ("c",) * 127)],
                          authority=[((), "SOA", 1, (largest,) + (4294967295,) * 5), ((), "MX", 1, (65535, largest))],
                          additional=[((), "TXT", 1, "~" * 255), ((), "A", 1, 4294967295)])
        self.assertEqual(read_message(write_message(message)), message)

    def test_different_messages_have_different_byte_lists(self):
        source = random.Random(11)
        found = {}
        for _ in range(3000):
            message = some_message(source, 1)
            known = found.setdefault(tuple(write_message(message)), message)
            self.assertEqual(known, message)

    def test_a_byte_list_that_ends_at_any_place(self):
        source = random.Random(10)
        for _ in range(25):
            data = write_message(some_message(source, 3))
            for length in range(len(data)):
                with self.assertRaises(Truncated) as context:
                    read_message(data[:length])
                self.assertEqual(context.exception.place, length)

    def test_bytes_behind_a_message(self):
        source = random.Random(15)
        for _ in range(100):
            data = write_message(some_message(source, 3))
            self.refuse(data + [source.randint(0, 255) for _ in range(source.randint(1, 40))], InvalidForm, len(data))

    def test_messages_with_faults_against_another_reader(self):
        source = random.Random(16)
        seen = set()
        for _ in range(6000):
            data = write_message(some_message(source, 2))
            for _ in range(source.choice([1, 1, 2, 5])):
                at = source.randrange(len(data))
                data[at] = source.choice([0, 1, 2, 37, 42, 63, 64, 65, 191, 192, 255, source.randint(0, 255),
                                          (data[at] + 1) % 256, (data[at] - 1) % 256])
            if source.randint(0, 3) == 0:
                del data[source.randrange(len(data)):]
            before = list(data)
            expected = read_in_another_way(data)
            try:
                found = read_message(data).fields()
            except ZonewardError as error:
                found = (error.__class__.__name__, error.place)
                seen.add(error.__class__)
            self.assertEqual(found, expected)
            self.assertEqual(data, before)
        self.assertEqual(seen, {Truncated, ReservedValue, InvalidForm, InvalidPointer, InvalidName, InvalidText})

    def test_names_against_another_reader(self):
        source = random.Random(17)
        for _ in range(4000):
            parts = [[0], [192, 0], label_bytes("a"), label_bytes("B" * 63), label_bytes("c" * 40), [192, 12],
                     [192, 14], [1, 33], [64], [192], label_bytes("*")]
            weights = [6, 2, 9, 9, 6, 9, 6, 1, 1, 1, 4]
            data = header((0, 0, 0)) + [byte for part in source.choices(parts, weights, k=source.randint(1, 12))
                                        for byte in part] + QUESTION[1:]
            expected = read_in_another_way(data)
            try:
                found = read_message(data).fields()
            except ZonewardError as error:
                found = (error.__class__.__name__, error.place)
            self.assertEqual(found, expected)

    def test_the_argument_does_not_change(self):
        data = write_message(some_message(random.Random(18)))
        before = copy.deepcopy(data)
        message = read_message(data)
        message.answer.append(None)
        self.assertEqual(data, before)
        self.assertNotEqual(read_message(data), message)
