"""Tests of the authorities of zoneward.servers: points 1, 26 to 28 and 32."""

import copy
import itertools
import random
import unittest

from zoneward.errors import InvalidZone
from zoneward.messages import Message
from zoneward.records import records_of
from zoneward.servers import Authority, Primary, Secondary
from zoneward.transfers import difference_records, full_copy
from zoneward.zones import lookup, zone_of

MASTER = 50
TOP = 2 ** 32 - 1


def soa(origin, serial=7):
    return (origin, "SOA", 90, ((("s", "z"), serial, 20, 9, 100, 50),))


def negative(origin, serial=7):
    """The record of the negative set of a zone."""
    return (origin, "SOA", 50, (("s", "z"), serial, 20, 9, 100, 50))


def zone_at(origin, *sets):
    """A valid zone with its own server and further sets."""
    return zone_of(origin, [soa(origin), (origin, "NS", 80, (("s", *origin),)), (("s", *origin), "A", 70, (1, 2)), *sets])


def address(*name, value=9):
    return (name, "A", 5, (value,))


def alias(name, value):
    return (name, "CNAME", 6, (value,))


def copied(zone, now=0):
    """A secondary with the data of a zone, which expire after 100 seconds."""
    secondary = Secondary(zone.origin, MASTER)
    query = secondary.due(now)
    secondary.receive(now, MASTER, Message(query.number, query.question, response=True, answer=full_copy(zone)))
    return secondary


class AuthorityCase(unittest.TestCase):
    def check(self, authority, question, *, now=0, aa=True, code=0, answer=(), authority_list=(), additional=(),
              query_authority=()):
        """The authority answers the question with these lists."""
        with self.subTest(question=question, now=now):
            for number, recursion in [(0, False), (65535, True)]:
                query = Message(number, question, recursion=recursion, authority=query_authority)
                before = copy.deepcopy(query.fields())
                found = authority.answer(now, query)
                self.assertIs(found.__class__, Message)
                self.assertEqual(found.fields(), (number, question, True, aa, recursion, code, list(answer),
                                                  list(authority_list), list(additional)))
                self.assertEqual(query.fields(), before)

    def refuse(self, authority, question, code, **more):
        self.check(authority, question, aa=False, code=code, **more)


class HoldersTest(unittest.TestCase):
    def test_the_attribute_and_holder_of(self):
        holders = [Primary(zone_at(("z",))), Secondary(("b", "z"), MASTER), Secondary((), MASTER)]
        authority = Authority(holders)
        self.assertEqual(authority.holders, holders)
        self.assertIs(authority.holders.__class__, list)
        self.assertEqual(authority.holder_of(("z",)), holders[0])
        self.assertEqual(authority.holder_of(("b", "z")), holders[1])
        self.assertEqual(authority.holder_of(()), holders[2])
        for origin in [("b",), ("a", "b", "z"), ("s", "z")]:
            self.assertIsNone(authority.holder_of(origin))
        self.assertIsNone(Authority([]).holder_of(()))

    def test_the_argument_does_not_change(self):
        holders = [Primary(zone_at(("z",)))]
        authority = Authority(holders)
        authority.answer(0, Message(0, (("z",), "A")))
        self.assertEqual(len(holders), 1)


class LookupsTest(AuthorityCase):
    def setUp(self):
        self.zone = zone_at(("z",), address("a", "z"), alias(("l", "z"), ("a", "z")), alias(("out", "z"), ("x", "y")),
                            alias(("none", "z"), ("q", "z")), alias(("kind", "z"), ("s", "z")),
                            (("c", "z"), "NS", 4, (("far",), ("n", "c", "z"), ("s", "z"))), address("n", "c", "z"),
                            alias(("below", "z"), ("x", "c", "z")), alias(("*", "w", "z"), ("a", "z")))
        self.authority = Authority([Primary(self.zone)])
        self.servers = [(("c", "z"), "NS", 4, server) for server in [("far",), ("n", "c", "z"), ("s", "z")]]
        self.glue = [(("n", "c", "z"), "A", 5, 9), (("s", "z"), "A", 70, 1), (("s", "z"), "A", 70, 2)]

    def test_answers(self):
        self.check(self.authority, (("a", "z"), "A"), answer=[(("a", "z"), "A", 5, 9)])
        self.check(self.authority, (("s", "z"), "A"), answer=[(("s", "z"), "A", 70, 1), (("s", "z"), "A", 70, 2)])
        self.check(self.authority, (("z",), "SOA"), answer=records_of([soa(("z",))]))
        self.check(self.authority, (("z",), "NS"), answer=[(("z",), "NS", 80, ("s", "z"))])

    def test_no_data(self):
        self.check(self.authority, (("a", "z"), "TXT"), authority_list=[negative(("z",))])
        self.check(self.authority, (("z",), "CNAME"), authority_list=[negative(("z",))])
        self.check(self.authority, (("w", "z"), "A"), authority_list=[negative(("z",))])

    def test_no_name(self):
        self.check(self.authority, (("q", "z"), "A"), code=3, authority_list=[negative(("z",))])
        self.check(self.authority, (("q", "a", "z"), "CNAME"), code=3, authority_list=[negative(("z",))])

    def test_delegations(self):
        for name in [("c", "z"), ("n", "c", "z"), ("q", "p", "c", "z")]:
            for kind in ("A", "NS", "SOA", "CNAME"):
                self.check(self.authority, (name, kind), aa=False, authority_list=self.servers, additional=self.glue)

    def test_aliases(self):
        self.check(self.authority, (("l", "z"), "A"),
                   answer=[(("l", "z"), "CNAME", 6, ("a", "z")), (("a", "z"), "A", 5, 9)])
        self.check(self.authority, (("l", "z"), "TXT"), answer=[(("l", "z"), "CNAME", 6, ("a", "z"))],
                   authority_list=[negative(("z",))])
        self.check(self.authority, (("none", "z"), "A"), code=3, answer=[(("none", "z"), "CNAME", 6, ("q", "z"))],
                   authority_list=[negative(("z",))])
        self.check(self.authority, (("q", "w", "z"), "A"),
                   answer=[(("q", "w", "z"), "CNAME", 6, ("a", "z")), (("a", "z"), "A", 5, 9)])

    def test_an_alias_is_an_answer_for_its_kind(self):
        self.check(self.authority, (("l", "z"), "CNAME"), answer=[(("l", "z"), "CNAME", 6, ("a", "z"))])
        self.check(self.authority, (("q", "w", "z"), "CNAME"), answer=[(("q", "w", "z"), "CNAME", 6, ("a", "z"))])

    def test_an_alias_out_of_the_zones(self):
        self.check(self.authority, (("out", "z"), "A"), answer=[(("out", "z"), "CNAME", 6, ("x", "y"))])

    def test_an_alias_to_a_delegation(self):
        self.check(self.authority, (("below", "z"), "A"), answer=[(("below", "z"), "CNAME", 6, ("x", "c", "z"))],
                   authority_list=self.servers, additional=self.glue)

    def test_aliases_into_other_zones(self):
        below = zone_at(("c", "z"), alias(("x", "c", "z"), ("x", "y")))
        other = zone_at(("y",), alias(("x", "y"), ("none", "z")))
        authority = Authority([Primary(other), Primary(self.zone), Primary(below)])
        answer = [(("below", "z"), "CNAME", 6, ("x", "c", "z")), (("x", "c", "z"), "CNAME", 6, ("x", "y")),
                  (("x", "y"), "CNAME", 6, ("none", "z")), (("none", "z"), "CNAME", 6, ("q", "z"))]
        self.check(authority, (("below", "z"), "A"), code=3, answer=answer, authority_list=[negative(("z",))])
        self.check(authority, (("out", "z"), "TXT"), code=3,
                   answer=[(("out", "z"), "CNAME", 6, ("x", "y")), *answer[2:]], authority_list=[negative(("z",))])
        authority = Authority([Primary(self.zone), Secondary(("c", "z"), MASTER), Secondary(("y",), MASTER)])
        self.check(authority, (("out", "z"), "A"), answer=[(("out", "z"), "CNAME", 6, ("x", "y"))])
        self.check(authority, (("below", "z"), "A"), answer=answer[:1], authority_list=self.servers,
                   additional=self.glue)

    def test_the_negative_set_is_that_of_the_last_zone(self):
        other = zone_at(("y",), address("x", "y"))
        authority = Authority([Primary(self.zone), Primary(other)])
        self.check(authority, (("out", "z"), "TXT"), answer=[(("out", "z"), "CNAME", 6, ("x", "y"))],
                   authority_list=[negative(("y",))])

    def test_rings(self):
        names = [(label, "z") for label in "abcd"]
        for length in (1, 2, 3, 4):
            ring = [alias(names[at], names[(at + 1) % length]) for at in range(length)]
            authority = Authority([Primary(zone_at(("z",), alias(("e", "z"), names[0]), *ring))])
            self.check(authority, (names[0], "A"), answer=records_of(ring))
            self.check(authority, (("e", "z"), "A"), answer=records_of([alias(("e", "z"), names[0]), *ring]))

    def test_a_ring_over_wildcards(self):
        authority = Authority([Primary(zone_at(("z",), alias(("*", "w", "z"), ("b", "w", "z"))))])
        self.check(authority, (("a", "w", "z"), "A"),
                   answer=[(("a", "w", "z"), "CNAME", 6, ("b", "w", "z")), (("b", "w", "z"), "CNAME", 6, ("b", "w", "z"))])

    def test_long_chains(self):
        for length in (1, 6, 7, 8, 9, 10):
            names = [(f"n{at}", "z") for at in range(length + 1)]
            chain = [alias(names[at], names[at + 1]) for at in range(length)]
            authority = Authority([Primary(zone_at(("z",), *chain, address(*names[length])))])
            # After 8 aliases nothing more is looked up.
            end = [address(*names[length])] if length < 8 else []
            self.check(authority, (names[0], "A"), answer=records_of(chain[:8] + end))
            missing = length < 8
            self.check(authority, (names[0], "TXT"), answer=records_of(chain[:8]),
                       authority_list=[negative(("z",))] if missing else [])
            authority = Authority([Primary(zone_at(("z",), *chain))])
            self.check(authority, (names[0], "A"), code=3 if missing else 0, answer=records_of(chain[:8]),
                       authority_list=[negative(("z",))] if missing else [])

    def test_zones_one_below_the_other(self):
        holders = [Primary(zone_at((), (("z",), "NS", 3, (("s", "z"),)), address("s", "z"), address("t"))),
                   Primary(zone_at(("z",), (("b", "z"), "NS", 3, (("far",),)), address("t", "z"))),
                   Primary(zone_at(("b", "z"), address("t", "b", "z")))]
        for order in itertools.permutations(holders):
            authority = Authority(order)
            for name in [("t",), ("t", "z"), ("t", "b", "z")]:
                self.check(authority, (name, "A"), answer=records_of([address(*name)]))
            for origin, name in [((), ("q",)), (("z",), ("q", "z")), (("b", "z"), ("q", "b", "z")), ((), ("b",))]:
                self.check(authority, (name, "A"), code=3, authority_list=[negative(origin)])
            for origin in [(), ("z",), ("b", "z")]:
                self.check(authority, (origin, "SOA"), answer=records_of([soa(origin)]))
                self.check(authority, (origin, "A"), authority_list=[negative(origin)])

    def test_a_zone_that_is_not_served_leaves_the_one_above_it(self):
        above = zone_at(("z",), (("b", "z"), "NS", 3, (("far",),)))
        secondary = copied(zone_at(("b", "z"), address("t", "b", "z")))
        authority = Authority([Primary(above), secondary])
        self.check(authority, (("t", "b", "z"), "A"), now=99, answer=[(("t", "b", "z"), "A", 5, 9)])
        self.check(authority, (("t", "b", "z"), "A"), now=100, aa=False,
                   authority_list=[(("b", "z"), "NS", 3, ("far",))])

    def test_a_secondary_answers_with_its_data(self):
        authority = Authority([copied(self.zone, 30)])
        for now in (30, 129):
            self.check(authority, (("a", "z"), "A"), now=now, answer=[(("a", "z"), "A", 5, 9)])
        self.refuse(authority, (("a", "z"), "A"), 2, now=130)

    def test_an_edit_is_answered_with_at_once(self):
        primary = Primary(self.zone)
        authority = Authority([primary])
        primary.edit([("drop", ("a", "z"), "A"), ("put", (("t", "z"), "TXT", 1, ("x",)))])
        self.check(authority, (("t", "z"), "TXT"), answer=[(("t", "z"), "TXT", 1, "x")])
        self.check(authority, (("a", "z"), "A"), code=3, authority_list=[negative(("z",), 8)])


class NotServedTest(AuthorityCase):
    def test_no_holders(self):
        for kind in ("A", "SOA", "AXFR", "IXFR"):
            self.refuse(Authority([]), ((), kind), 5)
            self.refuse(Authority([]), (("z",), kind), 5)

    def test_names_outside_of_all_zones(self):
        authority = Authority([Primary(zone_at(("b", "z"))), Secondary(("c", "z"), MASTER)])
        for name in [(), ("z",), ("b",), ("a", "z"), ("b", "z", "y"), ("bb", "z")]:
            self.refuse(authority, (name, "A"), 5)

    def test_a_secondary_that_never_had_data(self):
        authority = Authority([Primary(zone_at(("y",))), Secondary(("z",), MASTER)])
        for name in [("z",), ("a", "z"), ("c", "b", "z")]:
            self.refuse(authority, (name, "A"), 2)
        self.refuse(authority, ((), "A"), 5)

    def test_a_secondary_that_has_expired(self):
        authority = Authority([copied(zone_at(("z",), address("a", "z")))])
        self.check(authority, (("a", "z"), "A"), now=99, answer=[(("a", "z"), "A", 5, 9)])
        for now in (100, 101, 10 ** 6):
            self.refuse(authority, (("a", "z"), "A"), 2, now=now)
            self.refuse(authority, (("y",), "A"), 5, now=now)

    def test_transfers_of_a_zone_that_is_not_served(self):
        authority = Authority([copied(zone_at(("z",)))])
        for kind in ("AXFR", "IXFR"):
            self.refuse(authority, (("z",), kind), 2, now=100)
            self.refuse(authority, (("y",), kind), 5, now=100)


class TransferTest(AuthorityCase):
    def setUp(self):
        self.primary = Primary(zone_at(("z",), (("b", "z"), "NS", 3, (("far",),))))
        self.authority = Authority([self.primary])

    def edit(self, times):
        for number in range(times):
            self.primary.edit([("put", (("t", "z"), "TXT", 5, (f"v{number}",)))])

    def ixfr(self, serial, answer, **more):
        record = (("z",), "SOA", 1, (("other",), serial, 0, 0, 0, 0))
        for following in ([], [(("q",), "A", 1, 1)]):
            self.check(self.authority, (("z",), "IXFR"), query_authority=[record, *following], answer=answer, **more)

    def test_axfr(self):
        self.check(self.authority, (("z",), "AXFR"), answer=full_copy(self.primary.zone))
        self.edit(1)
        self.check(self.authority, (("z",), "AXFR"), answer=full_copy(self.primary.zone))
        self.check(self.authority, (("z",), "AXFR"), answer=full_copy(self.primary.zone),
                   query_authority=records_of([soa(("z",), 8)]))

    def test_names_that_are_no_origin(self):
        for kind in ("AXFR", "IXFR"):
            for name in [("s", "z"), ("b", "z"), ("t", "b", "z"), ("q", "z")]:
                self.refuse(self.authority, (name, kind), 5)
                self.refuse(self.authority, (name, kind), 5, query_authority=records_of([soa(name)]))
            for name in [(), ("y",)]:
                self.refuse(self.authority, (name, kind), 5)

    def test_the_origin_of_a_zone_below_that_is_not_served(self):
        authority = Authority([self.primary, Secondary(("b", "z"), MASTER)])
        for kind in ("AXFR", "IXFR"):
            self.refuse(authority, (("b", "z"), kind), 5)
            self.check(authority, (("z",), kind), answer=full_copy(self.primary.zone))

    def test_zones_one_below_the_other(self):
        below = Primary(zone_at(("b", "z")))
        for holders in ([self.primary, below], [below, self.primary]):
            authority = Authority(holders)
            self.check(authority, (("z",), "AXFR"), answer=full_copy(self.primary.zone))
            self.check(authority, (("b", "z"), "AXFR"), answer=full_copy(below.zone))
            self.check(authority, (("b", "z"), "IXFR"), answer=full_copy(below.zone))

    def test_ixfr_without_a_soa_record(self):
        self.edit(2)
        for given in ([], [(("z",), "NS", 1, ("q",))], [((), *soa(("z",))[1:3], soa(("z",))[3][0])],
                      [(("s", "z"), "A", 1, 1), *records_of([soa(("z",), 8)])],
                      records_of([soa(("s", "z"), 8)]), records_of([soa(("b", "z"), 8), soa(("z",), 8)])):
            self.check(self.authority, (("z",), "IXFR"), query_authority=given, answer=full_copy(self.primary.zone))

    def test_ixfr_with_the_current_serial(self):
        self.ixfr(7, records_of([soa(("z",), 7)]))
        self.edit(3)
        self.ixfr(10, records_of([soa(("z",), 10)]))

    def test_ixfr_with_kept_differences(self):
        for edits in (1, 2, 8):
            self.setUp()
            self.edit(edits)
            for at in range(edits):
                self.ixfr(7 + at, difference_records(self.primary.zone, self.primary.changes[at:]))

    def test_ixfr_with_differences_that_are_not_kept(self):
        self.edit(9)
        self.ixfr(7, full_copy(self.primary.zone))
        self.ixfr(8, difference_records(self.primary.zone, self.primary.changes))
        self.ixfr(15, difference_records(self.primary.zone, self.primary.changes[7:]))
        for serial in (6, 0, 17, TOP):
            self.ixfr(serial, full_copy(self.primary.zone))

    def test_ixfr_around_the_last_serial(self):
        zone = zone_at(("z",))
        self.primary = Primary(zone_of(("z",), [soa(("z",), TOP), *zone.sets[1:]]))
        self.authority = Authority([self.primary])
        self.edit(2)
        self.ixfr(TOP, difference_records(self.primary.zone, self.primary.changes))
        self.ixfr(0, difference_records(self.primary.zone, self.primary.changes[1:]))
        self.ixfr(1, records_of([soa(("z",), 1)]))

    def test_a_secondary(self):
        self.edit(2)
        self.authority = Authority([copied(self.primary.zone)])
        zone = self.authority.holders[0].zone
        for now in (0, 99):
            self.check(self.authority, (("z",), "AXFR"), answer=full_copy(zone), now=now)
            self.ixfr(9, records_of([soa(("z",), 9)]), now=now)
            for serial in (7, 8, 10, 0):
                self.ixfr(serial, full_copy(zone), now=now)


def answer_in_another_way(zones, name, kind):
    """The code, whether the response is authoritative, and its three lists, for one served zone for each origin."""
    def best(of):
        around = [zone for zone in zones if of[len(of) - len(zone.origin):] == zone.origin and len(of) >= len(zone.origin)]
        return max(around, key=lambda zone: len(zone.origin)) if around else None

    if best(name) is None:
        return 5, False, [], [], []
    answer, seen, first = [], [], None
    while True:
        seen.append(name)
        status, sets, glue = lookup(best(name), name, kind)
        first = first or status
        aa = first != "delegation"
        if status == "delegation":
            return 0, aa, records_of(answer), records_of(sets), records_of(glue)
        if status in ("no data", "no name"):
            below = records_of([best(name).negative_set()])
            return 3 if status == "no name" else 0, aa, records_of(answer), below, []
        answer += sets
        if status == "answer":
            break
        name = sets[0][3][0]
        if best(name) is None or name in seen or sum(one[1] == "CNAME" for one in answer) == 8:
            break
    return 0, aa, records_of(answer), [], []


class RandomTest(unittest.TestCase):
    def some_zone(self, source, origin):
        """A valid zone with random sets: those that would make it wrong are left out."""
        zone = zone_at(origin)
        for _ in range(6):
            name = tuple(source.choice("ab*" if at == 0 else "ab") for at in range(source.randint(0, 2))) + origin
            target = tuple(source.choice("ab") for _ in range(source.randint(1, 2))) + source.choice([("z",), ("y",)])
            one = source.choice([address(*name), alias(name, target), alias(name, target),
                                 (name, "NS", 3, (("s", *origin),))])
            try:
                zone = zone_of(origin, [*zone.sets, one])
            except InvalidZone:
                pass
        return zone

    def test_random_zones_against_another_answer(self):
        source = random.Random(28)
        found = {}
        for _ in range(1000):
            zones = [self.some_zone(source, origin) for origin in [(), ("z",), ("a", "z"), ("y",)]
                     if source.random() < 0.7]
            authority = Authority([Primary(zone) for zone in zones])
            for _ in range(6):
                name = tuple(source.choice("abz") for _ in range(source.randint(0, 2))) + source.choice([("z",), ("y",)])
                kind = source.choice(["A", "A", "CNAME", "TXT", "NS"])
                result = authority.answer(0, Message(1, (name, kind)))
                self.assertEqual((result.code, result.authoritative, result.answer, result.authority,
                                  result.additional), answer_in_another_way(zones, name, kind))
                key = (result.code, len([one for one in result.answer if one[1] == "CNAME"]), len(result.additional) > 0)
                found[key] = found.get(key, 0) + 1
        for key in [(0, 0, False), (0, 0, True), (0, 1, False), (0, 2, False), (3, 0, False), (3, 1, False), (5, 0, False)]:
            self.assertGreater(found.get(key, 0), 50, found)
