"""Tests of zoneward.messages: points 1, 7, 8 and 9."""

import copy
import inspect
import random
import unittest
from unittest import mock

from helper import QUERY_CODES, label_bytes, number_bytes, some_message, some_records

from zoneward import messages
from zoneward.messages import Message, write_message

ATTRIBUTES = ["number", "question", "response", "authoritative", "recursion", "code", "answer", "authority",
              "additional"]
RECORD = (("a",), "A", 60, 7)


def given(**changed):
    """The arguments of a message with a value of its own for each attribute."""
    arguments = {"number": 5, "question": (("a",), "A"), "response": True, "authoritative": False, "recursion": True,
                 "code": 3, "answer": [RECORD], "authority": [(("b",), "A", 1, 2)], "additional": []}
    return dict(arguments, **changed)


def records_behind(records, question=((), "A")):
    """What is written behind the header and the question of a message, with records in the answer."""
    size = 12 + sum(len(label) + 1 for label in question[0]) + 1 + 4
    return write_message(Message(0, question, answer=records))[size:]


def plain_writing(message):
    """Another way to write a message: a search for the first place of each rest, the longest one first."""
    data = number_bytes(message.number, 2)
    flags = 32768 * message.response + 1024 * message.authoritative + 256 * message.recursion + message.code
    data += number_bytes(flags, 2) + [0, 1]
    lists = [message.answer, message.authority, message.additional]
    for records in lists:
        data += number_bytes(len(records), 2)
    found = []

    def write_name(name):
        for at in range(len(name)):
            places = [place for place, rest in found if rest == name[at:] and place < 16384]
            if places:
                data.extend(number_bytes(49152 + min(places), 2))
                return
            found.append((len(data), name[at:]))
            data.extend(label_bytes(name[at]))
        data.append(0)

    def write_data(kind, value):
        if kind == "A":
            data.extend(number_bytes(value, 4))
        elif kind == "TXT":
            data.extend(label_bytes(value))
        elif kind == "MX":
            data.extend(number_bytes(value[0], 2))
            write_name(value[1])
        elif kind == "SOA":
            write_name(value[0])
            data.append(0)
            for number in value[1:]:
                data.extend(number_bytes(number, 4))
        else:
            write_name(value)

    write_name(message.question[0])
    data += number_bytes(QUERY_CODES[message.question[1]], 2) + [0, 1]
    for name, kind, ttl, value in [record for records in lists for record in records]:
        write_name(name)
        data.extend(number_bytes(QUERY_CODES[kind], 2) + [0, 1] + number_bytes(ttl, 4) + [0, 0])
        begin = len(data)
        write_data(kind, value)
        data[begin - 2:begin] = number_bytes(len(data) - begin, 2)
    return data


class InterfaceTest(unittest.TestCase):
    def test_the_names_and_their_arguments(self):
        self.assertEqual(str(inspect.signature(write_message)), "(message)")
        self.assertEqual(str(inspect.signature(Message)),
                         "(number, question, *, response=False, authoritative=False, recursion=False, code=0, "
                         "answer=(), authority=(), additional=())")
        self.assertEqual(write_message.__module__, "zoneward.messages")
        self.assertEqual(Message.__module__, "zoneward.messages")

    def test_the_methods_stand_in_the_class_itself(self):
        for name in ("__init__", "__eq__", "fields"):
            self.assertIn(name, vars(messages.Message))

    def test_the_other_arguments_are_passed_by_keyword_only(self):
        with self.assertRaises(TypeError):
            Message(1, ((), "A"), True)


class MessageTest(unittest.TestCase):
    def test_the_attributes_of_a_message(self):
        message = Message(**given())
        for name, value in given().items():
            with self.subTest(name):
                self.assertEqual(getattr(message, name), value)

    def test_what_is_left_out(self):
        message = Message(7, (("a",), "AXFR"))
        self.assertEqual(vars(message), {
            "number": 7, "question": (("a",), "AXFR"), "response": False, "authoritative": False,
            "recursion": False, "code": 0, "answer": [], "authority": [], "additional": []})
        for name in ("response", "authoritative", "recursion"):
            self.assertIs(getattr(message, name), False)

    def test_the_lists_are_lists_whatever_was_passed(self):
        message = Message(7, (("a",), "A"), answer=(RECORD,), authority=(), additional=(RECORD, RECORD))
        self.assertEqual((message.answer, message.authority, message.additional), ([RECORD], [], [RECORD, RECORD]))

    def test_the_lists_are_copied(self):
        for name in ("answer", "authority", "additional"):
            with self.subTest(name):
                records = [RECORD]
                message = Message(7, (("a",), "A"), **{name: records})
                records.append(RECORD)
                self.assertEqual(getattr(message, name), [RECORD])
                getattr(message, name).clear()
                self.assertEqual(records, [RECORD, RECORD])

    def test_messages_do_not_share_their_lists(self):
        records = [RECORD]
        first = Message(7, (("a",), "A"), answer=records, authority=records)
        second = Message(7, (("a",), "A"), answer=records)
        first.answer.append(RECORD)
        first.additional.append(RECORD)
        self.assertEqual((first.authority, second.answer, second.authority, second.additional),
                         ([RECORD], [RECORD], [], []))

    def test_the_fields(self):
        message = Message(**given())
        fields = message.fields()
        self.assertIs(fields.__class__, tuple)
        self.assertEqual(fields, (5, (("a",), "A"), True, False, True, 3, [RECORD], [(("b",), "A", 1, 2)], []))
        self.assertEqual(fields, tuple(given()[name] for name in ATTRIBUTES))

    def test_the_fields_follow_the_attributes(self):
        message = Message(**given())
        message.code = 5
        message.answer.clear()
        message.additional = [RECORD]
        self.assertEqual(message.fields(),
                         (5, (("a",), "A"), True, False, True, 5, [], [(("b",), "A", 1, 2)], [RECORD]))


class EqualTest(unittest.TestCase):
    def check(self, one, other, equal):
        self.assertIs(one == other, equal)
        self.assertIs(other == one, equal)
        self.assertIs(one != other, not equal)

    def test_messages_with_the_same_fields(self):
        message = Message(**given())
        self.check(message, message, True)
        self.check(message, Message(**given()), True)
        self.check(message, Message(**given(answer=(RECORD,))), True)
        self.check(message, copy.deepcopy(message), True)

    def test_each_field_counts(self):
        others = {"number": 6, "question": (("a",), "NS"), "response": False, "authoritative": True,
                  "recursion": False, "code": 0, "answer": [], "authority": [RECORD], "additional": [RECORD]}
        for name, value in others.items():
            with self.subTest(name):
                self.check(Message(**given()), Message(**given(**{name: value})), False)

    def test_the_name_of_the_question_counts(self):
        self.check(Message(**given()), Message(**given(question=(("a", "b"), "A"))), False)

    def test_the_order_and_the_number_of_the_records_count(self):
        other = (("a",), "A", 60, 8)
        for name in ("answer", "authority", "additional"):
            with self.subTest(name):
                message = Message(**given(**{name: [RECORD, other]}))
                self.check(message, Message(**given(**{name: [other, RECORD]})), False)
                self.check(message, Message(**given(**{name: [RECORD]})), False)
                self.check(message, Message(**given(**{name: [RECORD, other, other]})), False)
                self.check(message, Message(**given(**{name: [RECORD, other]})), True)

    def test_it_makes_a_difference_in_which_list_a_record_stands(self):
        lists = [{"answer": [RECORD]}, {"authority": [RECORD]}, {"additional": [RECORD]}]
        for one in lists:
            for other in lists:
                self.check(Message(1, ((), "A"), **one), Message(1, ((), "A"), **other), one == other)

    def test_a_value_of_another_class_is_not_equal(self):
        message = Message(**given())

        class Other:
            def __init__(self):
                vars(self).update(vars(message))

            def fields(self):
                return message.fields()

        for other in [None, 0, 5, "", "a", (), [], {}, True, message.fields(), list(message.fields()), vars(message),
                      write_message(message), Other(), Message, object()]:
            with self.subTest(repr(other)):
                self.check(message, other, False)

    def test_a_value_that_is_equal_to_all_others_is_not_equal_either(self):
        self.assertIs(Message(**given()) == mock.ANY, False)


class HeaderTest(unittest.TestCase):
    def header(self, **changed):
        return write_message(Message(**dict({"number": 0, "question": ((), "A")}, **changed)))[:12]

    def test_the_number(self):
        for number, two in [(0, [0, 0]), (1, [0, 1]), (255, [0, 255]), (256, [1, 0]), (65535, [255, 255]),
                            (4660, [18, 52])]:
            with self.subTest(number):
                self.assertEqual(self.header(number=number), two + [0, 0, 0, 1, 0, 0, 0, 0, 0, 0])

    def test_each_flag(self):
        for name, two in [("response", [128, 0]), ("authoritative", [4, 0]), ("recursion", [1, 0])]:
            with self.subTest(name):
                self.assertEqual(self.header(**{name: True}), [0, 0] + two + [0, 1, 0, 0, 0, 0, 0, 0])

    def test_each_code(self):
        for code in range(16):
            self.assertEqual(self.header(code=code), [0, 0, 0, code, 0, 1, 0, 0, 0, 0, 0, 0])

    def test_flags_and_code_together(self):
        for flags in range(8):
            for code in range(16):
                found = self.header(response=flags & 4 > 0, authoritative=flags & 2 > 0, recursion=flags & 1 > 0,
                                    code=code)
                first = 128 * (flags & 4 > 0) + 4 * (flags & 2 > 0) + (flags & 1)
                self.assertEqual(found[2:4], [first, code])

    def test_the_numbers_of_the_records(self):
        for name, at in [("answer", 6), ("authority", 8), ("additional", 10)]:
            for count, two in [(1, [0, 1]), (3, [0, 3]), (255, [0, 255]), (256, [1, 0]), (700, [2, 188])]:
                with self.subTest(name, count=count):
                    expected = [0] * 12
                    expected[5] = 1
                    expected[at:at + 2] = two
                    self.assertEqual(self.header(**{name: [RECORD] * count}), expected)

    def test_the_greatest_number_of_records(self):
        data = write_message(Message(0, ((), "A"), authority=[((), "A", 0, 0)] * 65535))
        self.assertEqual(data[6:12], [0, 0, 255, 255, 0, 0])
        self.assertEqual(len(data), 17 + 65535 * 15)


class QuestionTest(unittest.TestCase):
    def test_each_query_kind(self):
        for kind, code in QUERY_CODES.items():
            with self.subTest(kind):
                data = write_message(Message(0, (("a",), kind)))
                self.assertEqual(data[12:], [1, 97, 0, 0, code, 0, 1])

    def test_names(self):
        for name, written in [((), [0]), (("a",), [1, 97, 0]), (("*", "w"), [1, 42, 1, 119, 0]),
                              (("ab-", "_9"), [3, 97, 98, 45, 2, 95, 57, 0]),
                              (("z" * 63,), [63] + [122] * 63 + [0]),
                              (("a",) * 127, [1, 97] * 127 + [0])]:
            with self.subTest(name):
                self.assertEqual(write_message(Message(0, (name, "A")))[12:], written + [0, 1, 0, 1])


class RecordTest(unittest.TestCase):
    def test_the_parts_of_a_record(self):
        self.assertEqual(records_behind([(("a",), "A", 258, 16909060)]),
                         [1, 97, 0, 0, 1, 0, 1, 0, 0, 1, 2, 0, 4, 1, 2, 3, 4])

    def test_the_ttl(self):
        for ttl, four in [(0, [0, 0, 0, 0]), (255, [0, 0, 0, 255]), (65536, [0, 1, 0, 0]),
                          (2147483647, [127, 255, 255, 255])]:
            self.assertEqual(records_behind([((), "A", ttl, 0)]), [0, 0, 1, 0, 1] + four + [0, 4, 0, 0, 0, 0])

    def check_data(self, kind, value, code, data):
        with self.subTest(kind, value=value):
            self.assertEqual(records_behind([((), kind, 0, value)]),
                             [0, 0, code, 0, 1, 0, 0, 0, 0] + number_bytes(len(data), 2) + data)

    def test_addresses(self):
        for value, data in [(0, [0, 0, 0, 0]), (1, [0, 0, 0, 1]), (4294967295, [255] * 4), (2 ** 24, [1, 0, 0, 0])]:
            self.check_data("A", value, 1, data)

    def test_names_as_data(self):
        for kind, code in [("NS", 2), ("CNAME", 5)]:
            self.check_data(kind, (), code, [0])
            self.check_data(kind, ("a",), code, [1, 97, 0])
            self.check_data(kind, ("ab", "c"), code, [2, 97, 98, 1, 99, 0])

    def test_soa(self):
        numbers = [4294967295, 1, 256, 65536, 16777216]
        data = [255, 255, 255, 255, 0, 0, 0, 1, 0, 0, 1, 0, 0, 1, 0, 0, 1, 0, 0, 0]
        self.check_data("SOA", (("s",), *numbers), 6, [1, 115, 0, 0] + data)
        self.check_data("SOA", ((), *numbers), 6, [0, 0] + data)

    def test_mx(self):
        self.check_data("MX", (0, ()), 15, [0, 0, 0])
        self.check_data("MX", (10, ("m", "n")), 15, [0, 10, 1, 109, 1, 110, 0])
        self.check_data("MX", (65535, ("m",)), 15, [255, 255, 1, 109, 0])
        self.check_data("MX", (256, ("m",)), 15, [1, 0, 1, 109, 0])

    def test_txt(self):
        self.check_data("TXT", "", 16, [0])
        self.check_data("TXT", "Hi ~\\\"", 16, [6, 72, 105, 32, 126, 92, 34])
        self.check_data("TXT", "x" * 255, 16, [255] + [120] * 255)

    def test_the_three_lists_in_order(self):
        data = write_message(Message(0, ((), "A"), answer=[((), "A", 1, 1), ((), "A", 1, 2)],
                                     authority=[((), "A", 2, 3)], additional=[((), "A", 3, 4), ((), "A", 3, 5)]))
        self.assertEqual(data[6:12], [0, 2, 0, 1, 0, 2])
        expected = []
        for ttl, value in [(1, 1), (1, 2), (2, 3), (3, 4), (3, 5)]:
            expected += [0, 0, 1, 0, 1, 0, 0, 0, ttl, 0, 4, 0, 0, 0, value]
        self.assertEqual(data[17:], expected)

    def test_equal_records_are_written_as_often_as_they_stand_there(self):
        one = records_behind([((), "TXT", 1, "x")])
        self.assertEqual(records_behind([((), "TXT", 1, "x")] * 3), one * 3)


class PointerTest(unittest.TestCase):
    def test_the_examples_of_the_document(self):
        self.assertEqual(write_message(Message(7, (("a", "b"), "A"), recursion=True)),
                         [0, 7, 1, 0, 0, 1, 0, 0, 0, 0, 0, 0, 1, 97, 1, 98, 0, 0, 1, 0, 1])
        self.assertEqual(write_message(Message(0, (("b",), "MX"), answer=[(("b",), "MX", 1, (2, ("a", "b")))]))[19:],
                         [192, 12, 0, 15, 0, 1, 0, 0, 0, 1, 0, 6, 0, 2, 1, 97, 192, 12])

    def owners(self, question, *owners):
        """How the owners of some A records are written behind a question."""
        data = write_message(Message(0, (question, "A"), answer=[(owner, "A", 0, 0) for owner in owners]))
        found = []
        tail = [0, 1, 0, 1, 0, 0, 0, 0, 0, 4, 0, 0, 0, 0]
        place = 12 + sum(len(label) + 1 for label in question) + 5
        for _ in owners:
            end = next(at for at in range(place, len(data)) if data[at:at + 14] == tail)
            found.append(data[place:end])
            place = end + 14
        self.assertEqual(place, len(data))
        return found

    def test_a_whole_name_that_was_written(self):
        self.assertEqual(self.owners(("a", "b"), ("a", "b")), [[192, 12]])

    def test_the_longest_rest(self):
        self.assertEqual(self.owners(("a", "b", "c"), ("b", "c"), ("c",), ("d", "b", "c"), ("d", "c")),
                         [[192, 14], [192, 16], [1, 100, 192, 14], [1, 100, 192, 16]])

    def test_a_rest_that_ends_in_a_pointer_has_a_place(self):
        self.assertEqual(self.owners(("c",), ("b", "c"), ("a", "b", "c"), ("b", "c"), ("x", "a", "b", "c")),
                         [[1, 98, 192, 12], [1, 97, 192, 19], [192, 19], [1, 120, 192, 37]])

    def test_the_first_place_of_a_rest(self):
        # The rest ("b",) would have two places if the second name were written without a pointer.
        self.assertEqual(self.owners(("a", "b"), ("c", "b"), ("b",), ("c", "b")),
                         [[1, 99, 192, 14], [192, 14], [192, 21]])

    def test_only_the_end_of_a_name_is_a_rest(self):
        self.assertEqual(self.owners(("a", "b"), ("a",), ("a", "a"), ("b", "a"), ("a", "b", "a")),
                         [[1, 97, 0], [1, 97, 192, 21], [1, 98, 192, 21], [1, 97, 192, 56]])

    def test_labels_are_compared_whole(self):
        self.assertEqual(self.owners(("ab",), ("b",), ("xab",), ("a",)),
                         [[1, 98, 0], [3, 120, 97, 98, 0], [1, 97, 0]])

    def test_a_label_that_occurs_twice_in_one_name(self):
        self.assertEqual(self.owners(("a", "a"), ("a",), ("a", "a", "a")), [[192, 14], [1, 97, 192, 12]])

    def test_the_root_is_never_a_pointer(self):
        self.assertEqual(self.owners((), (), ()), [[0], [0]])

    def test_what_is_no_name_has_no_place(self):
        # The string has the same bytes as the name, and stands before it.
        data = records_behind([((), "TXT", 0, "a"), (("a",), "A", 0, 0)])
        self.assertEqual(data[13:16], [1, 97, 0])

    def test_names_within_the_data(self):
        for kind, code in [("NS", 2), ("CNAME", 5)]:
            data = records_behind([(("x",), kind, 0, ("a", "b")), (("b",), kind, 0, ("x",))], (("b",), "A"))
            self.assertEqual(data, [1, 120, 0, 0, code, 0, 1, 0, 0, 0, 0, 0, 4, 1, 97, 192, 12,
                                    192, 12, 0, code, 0, 1, 0, 0, 0, 0, 0, 2, 192, 19])

    def test_an_owner_points_into_earlier_data(self):
        data = records_behind([((), "MX", 0, (1, ("m", "n"))), (("m", "n"), "A", 0, 0), (("n",), "A", 0, 0)])
        self.assertEqual(data[:18], [0, 0, 15, 0, 1, 0, 0, 0, 0, 0, 7, 0, 1, 1, 109, 1, 110, 0])
        self.assertEqual((data[18:20], data[34:36]), ([192, 30], [192, 32]))

    def test_the_empty_name_of_a_soa_is_one_byte(self):
        data = records_behind([(("a",), "SOA", 0, (("a",), 1, 2, 3, 4, 5))], (("a",), "SOA"))
        self.assertEqual(data[:15], [192, 12, 0, 6, 0, 1, 0, 0, 0, 0, 0, 23, 192, 12, 0])
        self.assertEqual(data[15:], [0, 0, 0, 1, 0, 0, 0, 2, 0, 0, 0, 3, 0, 0, 0, 4, 0, 0, 0, 5])
        data = records_behind([((), "SOA", 0, (("b", "a"), 1, 2, 3, 4, 5))], (("a",), "SOA"))
        self.assertEqual(data[9:16], [0, 25, 1, 98, 192, 12, 0])

    def test_the_star_has_places_as_well(self):
        self.assertEqual(self.owners(("*", "w"), ("*", "w"), ("a", "*", "w")), [[192, 12], [1, 97, 192, 12]])

    def test_names_are_shared_by_all_lists(self):
        data = write_message(Message(0, (("q",), "A"), answer=[(("a", "q"), "A", 0, 0)],
                                     authority=[(("a", "q"), "NS", 0, ("n", "a", "q"))],
                                     additional=[(("n", "a", "q"), "A", 0, 0)]))
        self.assertEqual(data[19:23], [1, 97, 192, 12])
        self.assertEqual(data[37:39], [192, 19])
        self.assertEqual(data[49:53], [1, 110, 192, 19])
        self.assertEqual(data[53:55], [192, 49])


class LongMessageTest(unittest.TestCase):
    """Names that begin around the place 16384, the first one that no pointer reaches."""

    def filled(self, size):
        """Records that fill a message behind the question for the root up to a place."""
        records = []
        size -= 17
        while size >= 400:
            records.append(((), "TXT", 0, "x" * 255))
            size -= 267
        records.append(((), "TXT", 0, "x" * (size // 2 - 12)))
        records.append(((), "TXT", 0, "x" * (size - size // 2 - 12)))
        return records

    def names_at(self, size, *owners):
        """The bytes of a message behind a place, at which some A records begin."""
        records = self.filled(size)
        self.assertEqual(17 + len(records_behind(records)), size)
        return records_behind(records + [(owner, "A", 0, 0) for owner in owners])[size - 17:]

    def test_the_filling(self):
        tail = [0, 1, 0, 1, 0, 0, 0, 0, 0, 4, 0, 0, 0, 0]
        self.assertEqual(self.names_at(16000, ("a",)), [1, 97, 0] + tail)

    def test_the_last_place(self):
        data = self.names_at(16383, ("a",), ("a",))
        self.assertEqual((data[:3], data[17:19]), ([1, 97, 0], [255, 255]))

    def test_the_place_behind_the_last_one(self):
        data = self.names_at(16384, ("a",), ("a",), ("b", "a"))
        self.assertEqual((data[:3], data[17:20], data[34:39]), ([1, 97, 0], [1, 97, 0], [1, 98, 1, 97, 0]))

    def test_a_name_that_only_begins_before_it(self):
        data = self.names_at(16383, ("a", "b"), ("b",), ("a", "b"), ("c", "a", "b"))
        self.assertEqual((data[:5], data[19:22], data[36:38], data[52:56]),
                         ([1, 97, 1, 98, 0], [1, 98, 0], [255, 255], [1, 99, 255, 255]))

    def test_a_name_whose_second_label_is_at_the_last_place(self):
        data = self.names_at(16381, ("a", "b"), ("b",), ("c", "b"), ("c", "b"))
        self.assertEqual((data[:5], data[19:21], data[35:39], data[53:57]),
                         ([1, 97, 1, 98, 0], [255, 255], [1, 99, 255, 255], [1, 99, 255, 255]))

    def test_names_behind_it_point_to_places_before_it(self):
        records = self.filled(17000) + [(("a", "b"), "A", 0, 0), (("c", "b"), "NS", 0, ("c", "b")),
                                        (("b",), "A", 0, 0)]
        data = records_behind(records, (("b",), "A"))[17000 - 17:]
        self.assertEqual(data[:4], [1, 97, 192, 12])
        self.assertEqual(data[18:22], [1, 99, 192, 12])
        self.assertEqual(data[30:36], [0, 4, 1, 99, 192, 12])
        self.assertEqual(data[36:38], [192, 12])

    def test_random_messages_around_it(self):
        source = random.Random(14)
        for size in list(range(16372, 16390)) + [16600, 40000]:
            message = Message(1, ((), "A"), answer=self.filled(size) + some_records(source, 9))
            message.additional = some_records(source, 9)
            self.assertEqual(write_message(message), plain_writing(message))


class WritingTest(unittest.TestCase):
    def test_random_messages(self):
        source = random.Random(9)
        for _ in range(600):
            message = some_message(source)
            data = write_message(message)
            self.assertEqual(data, plain_writing(message))
            self.assertIs(data.__class__, list)
            self.assertEqual({byte.__class__ for byte in data}, {int})
            self.assertTrue(all(0 <= byte <= 255 for byte in data))

    def test_two_calls_give_the_same_bytes(self):
        source = random.Random(8)
        for _ in range(50):
            message = some_message(source)
            first = write_message(message)
            second = write_message(message)
            self.assertEqual(first, second)
            self.assertIsNot(first, second)
            self.assertEqual(write_message(copy.deepcopy(message)), first)

    def test_the_argument_does_not_change(self):
        source = random.Random(7)
        for _ in range(50):
            message = some_message(source)
            before = copy.deepcopy(vars(message))
            write_message(message)
            self.assertEqual(vars(message), before)

    def test_limits_that_are_passed_raise_no_error(self):
        long_name = ("x" * 64,) * 5
        message = Message(65536, (long_name, "A"), code=16, answer=[
            (long_name, "A", 2147483648, 4294967296), (("y" * 300,), "TXT", 4294967296, "x" * 256),
            ((), "MX", 0, (65536, long_name)), ((), "SOA", 0, (long_name, 4294967296, 0, 0, 0, 0))])
        data = write_message(message)
        self.assertTrue(all(0 <= byte <= 255 for byte in data))
        self.assertEqual(data[:12], [0, 0, 0, 16, 0, 1, 0, 4, 0, 0, 0, 0])
        self.assertEqual(len(write_message(Message(0, ((), "A"), answer=[((), "A", 0, 0)] * 65536))), 17 + 65536 * 15)
