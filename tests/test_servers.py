"""Tests of the primaries and secondaries of zoneward.servers: points 1 and 29 to 31."""

import copy
import inspect
import unittest

from test_transfers import after_in_another_way
from zoneward import servers
from zoneward.changes import difference, edit_zone
from zoneward.errors import InvalidZone
from zoneward.messages import Message
from zoneward.servers import Primary, Secondary
from zoneward.transfers import difference_records, full_copy
from zoneward.zones import Zone, zone_of

ORIGIN = ("z",)
NS = (ORIGIN, "NS", 80, (("s", "z"),))
HOST = (("s", "z"), "A", 70, (1, 2))
MASTER = 50
TOP = 2 ** 32 - 1


def soa(serial=7, refresh=20, retry=9, expire=100):
    return (ORIGIN, "SOA", 90, ((("s", "z"), serial, refresh, retry, expire, 50),))


def soa_record(*numbers):
    name, kind, ttl, values = soa(*numbers)
    return name, kind, ttl, values[0]


def zone_with(*numbers, more=()):
    return zone_of(ORIGIN, [soa(*numbers), NS, HOST, *more])


def text(label, value="t"):
    return ((label, "z"), "TXT", 5, (value,))


def state(secondary):
    zone = secondary.zone
    return (secondary.origin, secondary.master, None if zone is None else (zone.origin, list(zone.sets)),
            secondary.expires, secondary.next_time)


def filled(zone, now=0):
    """A secondary that has just taken a full copy of a zone; its next query has the number 1."""
    secondary = Secondary(ORIGIN, MASTER)
    query = secondary.due(now)
    secondary.receive(now, MASTER, Message(query.number, query.question, response=True, answer=full_copy(zone)))
    assert secondary.zone == zone
    return secondary


class InterfaceTest(unittest.TestCase):
    def test_the_methods_stand_in_the_classes_themselves(self):
        arguments = {"Primary": {"__init__": "(self, zone)", "edit": "(self, acts)", "served": "(self, now)"},
                     "Secondary": {"__init__": "(self, origin, master)", "due": "(self, now)",
                                   "receive": "(self, now, source, message)", "served": "(self, now)"},
                     "Authority": {"__init__": "(self, holders)", "answer": "(self, now, query)",
                                   "holder_of": "(self, origin)"}}
        for name, methods in arguments.items():
            found = getattr(servers, name)
            self.assertEqual(found.__module__, "zoneward.servers")
            for method, signature in methods.items():
                self.assertEqual(str(inspect.signature(vars(found)[method])), signature)


class PrimaryTest(unittest.TestCase):
    def test_the_attributes(self):
        zone = zone_with()
        primary = Primary(zone)
        self.assertEqual((primary.origin, primary.zone, primary.changes), (ORIGIN, zone, []))
        self.assertIs(primary.changes.__class__, list)

    def test_it_always_serves_its_zone(self):
        primary = Primary(zone_with())
        for now in (0, 1, 100, 10 ** 9):
            self.assertEqual(primary.served(now), zone_with())
        primary.edit([("put", text("a"))])
        for now in (0, 1, 100, 10 ** 9):
            self.assertEqual(primary.served(now), zone_with(8, more=[text("a")]))

    def test_an_edit(self):
        zone = zone_with()
        primary = Primary(zone)
        acts = [("put", text("a")), ("drop", ("b", "z"), "A")]
        self.assertIsNone(primary.edit(acts))
        self.assertEqual(primary.zone, zone_with(8, more=[text("a")]))
        self.assertEqual(primary.changes, [(soa(7), [], soa(8), [text("a")])])
        primary.edit([])
        self.assertEqual(primary.zone, zone_with(9, more=[text("a")]))
        self.assertEqual(primary.changes, [(soa(7), [], soa(8), [text("a")]), (soa(8), [], soa(9), [])])
        self.assertEqual((zone.sets, acts), ([soa(), NS, HOST], [("put", text("a")), ("drop", ("b", "z"), "A")]))

    def test_the_differences_of_the_last_8_edits_are_kept(self):
        primary = Primary(zone_with(TOP - 3))
        expected = []
        for number in range(12):
            old = primary.zone
            primary.edit([("put", text("a", str(number)))])
            expected.append(difference(old, primary.zone))
            self.assertEqual(primary.changes, expected[-8:])
            self.assertEqual(len(primary.changes), min(8, number + 1))
        self.assertEqual(primary.zone.serial(), 8)

    def test_an_edit_that_is_not_valid_changes_nothing(self):
        primary = Primary(zone_with())
        primary.edit([("put", text("a"))])
        for number, acts in [(4, [("put", text("b")), ("drop", ORIGIN, "NS")]), (8, [("drop", ("s", "z"), "A")]),
                             (1, [("put", (("y",), "A", 1, (1,)))])]:
            before = (primary.zone, list(primary.zone.sets), copy.deepcopy(primary.changes))
            with self.assertRaises(InvalidZone) as context:
                primary.edit(acts)
            self.assertEqual(context.exception.place, number)
            self.assertEqual((primary.zone, primary.zone.sets, primary.changes), before)
        primary.edit([])
        self.assertEqual(primary.zone.serial(), 9)

    def test_primaries_do_not_share_their_differences(self):
        zone = zone_with()
        one, other = Primary(zone), Primary(zone)
        one.edit([])
        self.assertEqual((other.changes, other.zone.serial(), zone.serial()), ([], 7, 7))


class DueTest(unittest.TestCase):
    def test_the_attributes(self):
        self.assertEqual(state(Secondary(ORIGIN, MASTER)), (ORIGIN, MASTER, None, 0, 0))
        self.assertIsNone(Secondary(ORIGIN, MASTER).served(0))

    def test_the_first_query(self):
        for now in (0, 1, 77):
            secondary = Secondary(ORIGIN, MASTER)
            self.assertEqual(secondary.due(now), Message(0, (ORIGIN, "AXFR")))
            self.assertEqual(state(secondary), (ORIGIN, MASTER, None, 0, now + 5))

    def test_queries_without_data(self):
        secondary = Secondary((), MASTER)
        queries = [(now, secondary.due(now)) for now in range(17)]
        self.assertEqual([(now, query) for now, query in queries if query is not None],
                         [(now, Message(number, ((), "AXFR"))) for number, now in enumerate((0, 5, 10, 15))])
        self.assertIsNone(secondary.due(19))
        self.assertEqual(secondary.next_time, 20)

    def test_a_query_that_is_late(self):
        secondary = Secondary(ORIGIN, MASTER)
        secondary.due(0)
        self.assertEqual(secondary.due(23), Message(1, (ORIGIN, "AXFR")))
        self.assertEqual(secondary.next_time, 28)

    def test_queries_with_data(self):
        secondary = filled(zone_with(7, 20, 9, 100), 30)
        self.assertEqual((secondary.next_time, secondary.expires), (50, 130))
        self.assertIsNone(secondary.due(49))
        query = Message(1, (ORIGIN, "IXFR"), authority=[soa_record(7, 20, 9, 100)])
        self.assertEqual(secondary.due(50), query)
        self.assertEqual((secondary.next_time, secondary.expires), (59, 130))
        self.assertIsNone(secondary.due(58))
        query.number = 2
        self.assertEqual(secondary.due(59), query)

    def test_queries_with_data_that_have_expired(self):
        secondary = filled(zone_with(7, 200, 9, 100))
        for number, now in [(1, 200), (2, 209), (3, 1000)]:
            self.assertIsNone(secondary.served(now))
            self.assertEqual(secondary.due(now),
                             Message(number, (ORIGIN, "IXFR"), authority=[soa_record(7, 200, 9, 100)]))
            self.assertEqual(secondary.next_time, now + 9)

    def test_a_retry_interval_of_0_counts_as_1(self):
        for retry, step in [(0, 1), (1, 1), (2, 2), (TOP, TOP)]:
            secondary = filled(zone_with(7, 20, retry, 100))
            self.assertIsNotNone(secondary.due(20))
            self.assertEqual(secondary.next_time, 20 + step)
            self.assertIsNone(secondary.due(20))

    def test_the_numbers(self):
        secondary = Secondary(ORIGIN, MASTER)
        for number in [*range(65536), 0, 1, 2]:
            query = secondary.due(secondary.next_time)
            self.assertEqual(query.number, number)
        self.assertIs(query.recursion, False)
        self.assertIs(query.response, False)

    def test_numbers_go_on_over_the_data(self):
        secondary = Secondary(ORIGIN, MASTER)
        for number in range(3):
            query = secondary.due(10 * number)
        secondary.receive(21, MASTER, Message(2, query.question, response=True, answer=full_copy(zone_with())))
        self.assertEqual(secondary.due(100).number, 3)


class CountsTest(unittest.TestCase):
    """Which responses count."""

    def check(self, secondary, counts, now, source, message):
        before = state(secondary)
        records = copy.deepcopy(message.fields())
        with self.subTest(source=source, message=message.fields()):
            self.assertIsNone(secondary.receive(now, source, message))
            self.assertEqual(message.fields(), records)
            self.assertIs(state(secondary) != before, counts)

    def response(self, **changed):
        fields = {"number": 2, "question": (ORIGIN, "AXFR"), "response": True, "code": 0,
                  "answer": full_copy(zone_with())}
        fields.update(changed)
        return Message(fields.pop("number"), fields.pop("question"), **fields)

    def asked(self):
        """A secondary without data whose last query has the number 2."""
        secondary = Secondary(ORIGIN, MASTER)
        for now in (0, 5, 10):
            secondary.due(now)
        return secondary

    def test_a_response_that_counts(self):
        self.check(self.asked(), True, 11, MASTER, self.response())
        self.check(self.asked(), True, 14, MASTER, self.response())
        self.check(self.asked(), True, 5000, MASTER, self.response())
        self.check(self.asked(), True, 11, MASTER, self.response(authoritative=True, recursion=True))
        self.check(self.asked(), True, 11, MASTER, self.response(authority=[soa_record()], additional=[soa_record()]))

    def test_another_source(self):
        for source in (0, 49, 51):
            self.check(self.asked(), False, 11, source, self.response())

    def test_another_number(self):
        for number in (0, 1, 3, 65535):
            self.check(self.asked(), False, 11, MASTER, self.response(number=number))

    def test_another_question(self):
        for question in [(ORIGIN, "IXFR"), ((), "AXFR"), (("a", "z"), "AXFR"), (ORIGIN, "SOA")]:
            self.check(self.asked(), False, 11, MASTER, self.response(question=question))

    def test_another_code(self):
        for code in (1, 2, 3, 5, 15):
            self.check(self.asked(), False, 11, MASTER, self.response(code=code))

    def test_a_query(self):
        self.check(self.asked(), False, 11, MASTER, self.response(response=False))

    def test_before_the_first_query(self):
        for number in (0, 1):
            self.check(Secondary(ORIGIN, MASTER), False, 0, MASTER, self.response(number=number))

    def test_the_question_of_the_last_query(self):
        secondary = filled(zone_with(7, 20, 9, 100))
        secondary.due(20)
        for kind, counts in [("AXFR", False), ("IXFR", True)]:
            self.check(secondary, counts, 21, MASTER,
                       self.response(number=1, question=(ORIGIN, kind), answer=[soa_record(7, 20, 9, 100)]))

    def test_a_second_copy_of_a_response(self):
        secondary = filled(zone_with(7, 20, 9, 100))
        secondary.due(20)
        response = self.response(number=1, question=(ORIGIN, "IXFR"), answer=[soa_record(7, 20, 9, 100)])
        self.check(secondary, True, 21, MASTER, response)
        self.assertEqual((secondary.next_time, secondary.expires), (41, 121))
        self.check(secondary, True, 23, MASTER, response)
        self.assertEqual((secondary.next_time, secondary.expires), (43, 123))

    def test_the_question_of_another_secondary(self):
        secondary = Secondary((), MASTER)
        secondary.due(0)
        self.check(secondary, False, 1, MASTER, self.response(number=0))


class TakeTest(unittest.TestCase):
    """What responses that count do, with data that have expired and have not."""

    def after(self, secondary, now, answer, asked=None):
        """The secondary after a response to a query that it sends just before."""
        query = secondary.due(max(now, secondary.next_time) if asked is None else asked)
        secondary.receive(now, MASTER, Message(query.number, query.question, response=True, answer=answer))
        return secondary

    def check(self, secondary, now, answer, zone, expires, next_time):
        self.after(secondary, now, answer)
        self.assertEqual((secondary.zone, secondary.expires, secondary.next_time), (zone, expires, next_time))

    def ignore(self, secondary, now, answer):
        """All stays as it was after the query."""
        query = secondary.due(now)
        self.assertIsNotNone(query)
        before = state(secondary)
        secondary.receive(now, MASTER, Message(query.number, query.question, response=True, answer=answer))
        self.assertEqual(state(secondary), before)

    def test_a_first_full_copy(self):
        zone = zone_with(7, 20, 9, 100, more=[text("a")])
        self.check(Secondary(ORIGIN, MASTER), 3, full_copy(zone), zone, 103, 23)

    def test_the_sets_have_the_soa_set_first(self):
        zone = zone_of(ORIGIN, [text("a"), HOST, soa(), NS])
        secondary = self.after(Secondary(ORIGIN, MASTER), 0, full_copy(zone))
        self.assertEqual(secondary.zone.sets, [soa(), text("a"), HOST, NS])
        self.assertIs(secondary.zone.__class__, Zone)

    def test_intervals_of_0(self):
        self.check(Secondary(ORIGIN, MASTER), 3, full_copy(zone_with(7, 0, 0, 0)), zone_with(7, 0, 0, 0), 3, 4)
        self.check(Secondary(ORIGIN, MASTER), 3, full_copy(zone_with(7, 1, 0, 1)), zone_with(7, 1, 0, 1), 4, 4)

    def test_the_times_are_those_of_the_new_soa_set(self):
        new = zone_with(8, 30, 10, 200)
        change = difference(zone_with(7, 20, 9, 100), new)
        self.check(filled(zone_with(7, 20, 9, 100)), 40, full_copy(new), new, 240, 70)
        self.check(filled(zone_with(7, 20, 9, 100)), 40, difference_records(new, [change]), new, 240, 70)

    def test_data_that_are_up_to_date(self):
        zone = zone_with(7, 20, 9, 100)
        self.check(filled(zone), 40, [soa_record(7, 20, 9, 100)], zone, 140, 60)
        self.check(filled(zone_with(7, 0, 9, 0)), 40, [soa_record(7, 0, 9, 0)], zone_with(7, 0, 9, 0), 40, 41)

    def test_data_that_have_expired_and_are_up_to_date(self):
        zone = zone_with(7, 20, 9, 100)
        secondary = filled(zone)
        self.assertIsNone(secondary.served(500))
        self.check(secondary, 500, [soa_record(7, 20, 9, 100)], zone, 600, 520)
        self.assertEqual(secondary.served(599), zone)

    def test_one_soa_record_that_is_of_no_use(self):
        self.ignore(Secondary(ORIGIN, MASTER), 0, [soa_record()])
        for now in (40, 500):
            for serial in (6, 8, 0, TOP):
                self.ignore(filled(zone_with(7)), now, [soa_record(serial)])
            self.ignore(filled(zone_with(7)), now, [((), *soa_record(7)[1:])])
            self.ignore(filled(zone_with(7)), now, [])

    def test_full_copies_with_other_serials(self):
        for old, new, later in [(7, 7, False), (7, 8, True), (7, 6, False), (TOP, 0, True), (0, TOP, False),
                                (5, 5 + 2 ** 31 - 1, True), (5, 5 + 2 ** 31, False), (5 + 2 ** 31, 4, True)]:
            with self.subTest(old=old, new=new):
                zone = zone_with(new, 20, 9, 100, more=[text("new")])
                if later:
                    self.check(filled(zone_with(old)), 40, full_copy(zone), zone, 140, 60)
                else:
                    self.ignore(filled(zone_with(old)), 40, full_copy(zone))
                # Data that have expired are replaced in any case.
                self.check(filled(zone_with(old)), 100, full_copy(zone), zone, 200, 120)

    def test_the_second_at_which_data_expire(self):
        zone = zone_with(7, more=[text("new")])
        self.ignore(filled(zone_with(7, 20, 9, 100)), 99, full_copy(zone))
        self.check(filled(zone_with(7, 20, 9, 100)), 100, full_copy(zone), zone, 200, 120)

    def test_differences_with_other_serials(self):
        for new, later in [(8, True), (7, False), (6, False), (7 + 2 ** 31, False)]:
            with self.subTest(new=new):
                zone = zone_with(new, 20, 9, 100, more=[text("new")])
                answer = difference_records(zone, [difference(zone_with(7), zone)])
                if later:
                    self.check(filled(zone_with(7)), 40, answer, zone, 140, 60)
                else:
                    self.ignore(filled(zone_with(7)), 40, answer)
                self.check(filled(zone_with(7)), 100, answer, zone, 200, 120)

    def test_several_differences(self):
        primary = Primary(zone_with(TOP - 1))
        for acts in ([("put", text("a"))], [("put", text("a", "u")), ("put", text("b"))], [("drop", ("a", "z"), "TXT")]):
            primary.edit(acts)
        answer = difference_records(primary.zone, primary.changes)
        self.check(filled(zone_with(TOP - 1)), 40, answer, zone_with(1, more=[text("b")]), 140, 60)
        self.ignore(filled(zone_with(TOP)), 40, answer)
        self.ignore(Secondary(ORIGIN, MASTER), 40, answer)

    def test_differences_that_do_not_apply(self):
        old, new = zone_with(7, more=[text("a")]), zone_with(8, more=[text("b")])
        answer = difference_records(new, [difference(old, new)])
        for zone in (zone_with(7), zone_with(7, more=[text("a"), text("b")]), zone_with(7, 21, more=[text("a")]),
                     zone_with(6, more=[text("a")]), zone_with(7, more=[text("a", "u")])):
            for now in (40, 500):
                self.ignore(filled(zone), now, answer)

    def test_copies_that_are_not_valid(self):
        bad = Zone(ORIGIN, [soa(8), NS])
        for now in (40, 500):
            self.ignore(filled(zone_with(7)), now, full_copy(bad))
            self.ignore(Secondary(ORIGIN, MASTER), now, full_copy(bad))

    def test_records_left_out_doubled_and_moved(self):
        primary = Primary(zone_with(7, more=[text("a"), text("b")]))
        old = primary.zone
        primary.edit([("put", text("a", "u"))])
        primary.edit([("drop", ("b", "z"), "TXT"), ("put", text("c"))])
        counts = {True: 0, False: 0}
        for zone, records in [(None, full_copy(old)), (old, full_copy(primary.zone)), (old, [soa_record(7)]),
                              (old, difference_records(primary.zone, primary.changes))]:
            for at, record in enumerate(records):
                rest = records[:at] + records[at + 1:]
                for answer in [rest] + [rest[:to] + [record] * many + rest[to:]
                                        for to in range(len(rest) + 1) for many in (1, 2)]:
                    expected = after_in_another_way(zone, answer)
                    counts[expected is None] += 1
                    secondary = Secondary(ORIGIN, MASTER) if zone is None else filled(zone)
                    if expected is None:
                        self.ignore(secondary, 40, answer)
                    else:
                        self.check(secondary, 40, answer, expected, 140, 60)
        self.assertGreater(min(counts.values()), 50, counts)

    def test_served_at_the_second_of_expires(self):
        secondary = filled(zone_with(7, 20, 9, 100), 30)
        self.assertEqual(secondary.expires, 130)
        for now, served in [(30, True), (31, True), (129, True), (130, False), (131, False), (10 ** 9, False)]:
            self.assertEqual(secondary.served(now), zone_with(7, 20, 9, 100) if served else None)
        self.assertEqual(secondary.zone, zone_with(7, 20, 9, 100))

    def test_an_expire_value_of_0(self):
        secondary = filled(zone_with(7, 20, 9, 0), 30)
        self.assertIsNone(secondary.served(30))
        self.assertEqual(secondary.zone, zone_with(7, 20, 9, 0))

    def test_an_ignored_response_keeps_what_was_served(self):
        secondary = filled(zone_with(7, 20, 9, 100))
        self.ignore(secondary, 50, full_copy(zone_with(6)))
        self.assertEqual(secondary.served(99), zone_with(7, 20, 9, 100))
        self.assertIsNone(secondary.served(100))

    def test_edits_of_a_copied_zone_do_not_reach_the_secondary(self):
        primary = Primary(zone_with())
        secondary = self.after(Secondary(ORIGIN, MASTER), 0, full_copy(primary.zone))
        primary.edit([("put", text("a"))])
        self.assertEqual(secondary.zone, zone_with())
        self.assertNotEqual(secondary.zone, edit_zone(zone_with(), []))
