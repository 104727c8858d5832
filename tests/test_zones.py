"""Tests of zoneward.zones: points 1 and 13 to 16."""

import copy
import inspect
import itertools
import random
import unittest
from unittest import mock

from zoneward import zones
from zoneward.errors import InvalidZone
from zoneward.zones import Zone, check_zone, lookup, zone_of

ORIGIN = ("z",)
SOA = (ORIGIN, "SOA", 90, ((("s", "z"), 7, 2, 3, 4, 50),))
NS = (ORIGIN, "NS", 80, (("s", "z"),))
HOST = (("s", "z"), "A", 70, (1, 2))
BASE = [SOA, NS, HOST]
KINDS = ["A", "NS", "CNAME", "SOA", "MX", "TXT"]


def address(*labels):
    return (labels, "A", 5, (9,))


def text(*labels):
    return (labels, "TXT", 5, ("t",))


def servers(name, *values):
    return (name, "NS", 5, tuple(sorted(values)))


def alias(name, *values):
    return (name, "CNAME", 5, values)


def number_in_another_way(origin, sets):
    """The number of the first rule of point 13 that does not hold, or None."""
    def is_in(name, other):
        return other == () or name[-len(other):] == other

    names = [one[0] for one in sets]
    cuts = [one[0] for one in sets if one[1] == "NS" and one[0] != origin]
    soas = [one for one in sets if one[1] == "SOA"]
    if not all(is_in(name, origin) for name in names):
        return 1
    if any(one[:2] == other[:2] for one, other in itertools.combinations(sets, 2)):
        return 1
    if any(label == "*" for name in names for label in name[1:]) or "*" in origin:
        return 2
    if len(soas) != 1 or soas[0][0] != origin or len(soas[0][3]) != 1:
        return 3
    if not any(one[:2] == (origin, "NS") for one in sets):
        return 4
    for one in sets:
        if one[1] == "CNAME" and (names.count(one[0]) > 1 or len(one[3]) != 1):
            return 5
    if any(name[0] == "*" for name in cuts):
        return 6
    for cut in cuts:
        for one in sets:
            if is_in(one[0], cut) and one[1] != "A" and one[:2] != (cut, "NS"):
                return 7
    for one in sets:
        for value in one[3] if one[1] == "NS" else ():
            if is_in(value, origin) and not any(other[:2] == (value, "A") for other in sets):
                return 8
    return None


def lookup_in_another_way(origin, sets, name, kind):
    """The result of a lookup, by the cases of point 15 over all ends of the name."""
    by_key = {one[:2]: one for one in sets}
    ends = [name[at:] for at in range(len(name) - len(origin), -1, -1)]
    existing = {owner[at:] for owner in {one[0] for one in sets} for at in range(len(owner) - len(origin) + 1)}
    cuts = [by_key[end, "NS"] for end in ends[1:] if (end, "NS") in by_key]
    if cuts:
        return "delegation", [cuts[0]], [by_key[value, "A"] for value in cuts[0][3] if (value, "A") in by_key]
    owner = name
    if name not in existing:
        encloser = max([end for end in ends if end in existing], key=len)
        owner = ("*", *encloser)
        if not any(one[0] == owner for one in sets):
            return "no name", [], []
    for status, found in [("answer", kind), ("alias", "CNAME")]:
        if (owner, found) in by_key:
            return status, [(name, *by_key[owner, found][1:])], []
    return "no data", [], []


class ZoneCase(unittest.TestCase):
    def refuse(self, number, sets, origin=ORIGIN):
        """The sets are no valid zone, in whatever order they are."""
        for given in (sets, sets[::-1], sorted(sets)):
            for function in (lambda: zone_of(origin, given), lambda: check_zone(Zone(origin, given))):
                with self.subTest(sets=given, origin=origin):
                    with self.assertRaises(InvalidZone) as context:
                        function()
                    self.assertIs(context.exception.__class__, InvalidZone)
                    self.assertEqual(context.exception.place, number)

    def accept(self, sets, origin=ORIGIN):
        for given in (sets, sets[::-1], sorted(sets)):
            with self.subTest(sets=given, origin=origin):
                zone = zone_of(origin, given)
                self.assertIs(zone.__class__, Zone)
                self.assertEqual((zone.origin, zone.sets), (origin, given))
                self.assertIsNone(check_zone(zone))


class InterfaceTest(unittest.TestCase):
    def test_the_functions_and_their_arguments(self):
        arguments = {"Zone": "(origin, sets)", "check_zone": "(zone)", "zone_of": "(origin, sets)",
                     "lookup": "(zone, name, kind)"}
        for name, signature in arguments.items():
            value = getattr(zones, name)
            self.assertEqual(value.__module__, "zoneward.zones")
            self.assertEqual(str(inspect.signature(value)), signature)

    def test_the_methods_stand_in_the_class_itself(self):
        arguments = {"find_set": "(self, name, kind)", "soa": "(self)", "serial": "(self)", "negative_set": "(self)",
                     "exists": "(self, name)", "__eq__": "(self, other)"}
        for name, signature in arguments.items():
            self.assertEqual(str(inspect.signature(vars(Zone)[name])), signature)


class ZoneTest(unittest.TestCase):
    def test_the_attributes(self):
        zone = Zone(ORIGIN, BASE)
        self.assertEqual(vars(zone), {"origin": ORIGIN, "sets": BASE})
        self.assertEqual(Zone((), ()).sets, [])
        self.assertEqual(Zone((), (HOST,)).sets, [HOST])

    def test_the_list_is_copied(self):
        for make in (Zone, zone_of):
            sets = list(BASE)
            zone = make(ORIGIN, sets)
            other = make(ORIGIN, sets)
            sets.clear()
            self.assertEqual(zone.sets, BASE)
            zone.sets.append(text("t", "z"))
            self.assertEqual((sets, other.sets), ([], BASE))

    def test_the_sets_need_not_be_a_valid_zone(self):
        for sets in ([], [HOST, HOST], [alias((), ("a",), ("b",)), text()]):
            self.assertEqual(Zone(("x", "*"), sets).sets, sets)

    def test_find_set(self):
        zone = Zone(ORIGIN, BASE + [text("z"), text("t", "z"), alias(("c", "z"), ("x",))])
        self.assertIs(zone.find_set(ORIGIN, "SOA"), SOA)
        self.assertIs(zone.find_set(ORIGIN, "NS"), NS)
        self.assertEqual(zone.find_set(ORIGIN, "TXT"), text("z"))
        self.assertEqual(zone.find_set(("t", "z"), "TXT"), text("t", "z"))
        self.assertIsNone(zone.find_set(ORIGIN, "A"))
        self.assertIsNone(zone.find_set(("t", "z"), "A"))
        self.assertIsNone(zone.find_set(("t",), "TXT"))
        self.assertIsNone(zone.find_set(("x", "t", "z"), "TXT"))
        self.assertIsNone(zone.find_set(("c", "z"), "A"))
        self.assertIsNone(Zone((), []).find_set((), "SOA"))

    def test_find_set_does_not_take_wildcards(self):
        zone = Zone(ORIGIN, BASE + [text("*", "z")])
        self.assertIsNone(zone.find_set(("a", "z"), "TXT"))
        self.assertEqual(zone.find_set(("*", "z"), "TXT"), text("*", "z"))

    def test_find_set_follows_the_attribute(self):
        zone = Zone(ORIGIN, BASE)
        zone.sets.append(text("t", "z"))
        self.assertEqual(zone.find_set(("t", "z"), "TXT"), text("t", "z"))
        self.assertTrue(zone.exists(("t", "z")))
        zone.sets = [HOST]
        self.assertIsNone(zone.find_set(("t", "z"), "TXT"))

    def test_the_soa_set_and_its_serial(self):
        for sets in itertools.permutations(BASE):
            zone = zone_of(ORIGIN, sets)
            self.assertEqual(zone.soa(), SOA)
            self.assertEqual(zone.serial(), 7)
        for serial in (0, 1, 2 ** 32 - 1):
            zone = zone_of((), [((), "SOA", 0, (((), serial, 9, 9, 9, 9),)), servers((), ("s",)), address("s")])
            self.assertEqual(zone.serial(), serial)

    def test_the_negative_set(self):
        for ttl, minimum, least in [(90, 50, 50), (50, 90, 50), (60, 60, 60), (0, 5, 0), (5, 0, 0), (51, 50, 50),
                                    (2147483647, 4294967295, 2147483647), (2147483647, 2147483646, 2147483646)]:
            value = (("s", "z"), 7, 1, 2, 3, minimum)
            zone = zone_of(ORIGIN, [(ORIGIN, "SOA", ttl, (value,)), NS, HOST])
            with self.subTest(ttl=ttl, minimum=minimum):
                self.assertEqual(zone.negative_set(), (ORIGIN, "SOA", least, (value,)))
                self.assertEqual(zone.soa(), (ORIGIN, "SOA", ttl, (value,)))
                self.assertIs(zone.negative_set().__class__, tuple)

    def test_names_that_exist(self):
        zone = zone_of(ORIGIN, BASE + [text("a", "b", "c", "z"), text("*", "w", "z"), servers(("d", "z"), ("q",)),
                                       address("g", "d", "z"), alias(("l", "z"), ("nowhere",))])
        for name in [("z",), ("s", "z"), ("a", "b", "c", "z"), ("b", "c", "z"), ("c", "z"), ("w", "z"), ("d", "z"),
                     ("*", "w", "z"), ("g", "d", "z"), ("l", "z")]:
            self.assertIs(zone.exists(name), True, name)
        for name in [("a", "z"), ("b", "z"), ("x", "b", "c", "z"), ("x", "a", "b", "c", "z"), ("x", "w", "z"),
                     ("x", "*", "w", "z"), ("*", "z"), ("nowhere",), ("q", "z"), ("x", "d", "z"), ("zz", "z")]:
            self.assertIs(zone.exists(name), False, name)

    def test_a_name_outside_of_the_origin_does_not_exist(self):
        zone = zone_of(("b", "z"), [(("b", "z"), "SOA", 1, SOA[3]), servers(("b", "z"), ("q",))])
        self.assertIs(zone.exists(("b", "z")), True)
        for name in [(), ("z",), ("b",), ("a", "z"), ("q",)]:
            self.assertIs(zone.exists(name), False, name)

    def test_names_within_the_root(self):
        zone = zone_of((), [((), "SOA", 1, SOA[3]), servers((), ("q",)), address("q")])
        self.assertIs(zone.exists(()), True)
        self.assertIs(zone.exists(("q",)), True)
        self.assertIs(zone.exists(("z",)), False)

    def test_nothing_exists_in_a_zone_without_sets(self):
        self.assertIs(Zone(ORIGIN, []).exists(ORIGIN), False)


class EqualTest(unittest.TestCase):
    def check(self, one, other, equal):
        self.assertIs(one == other, equal)
        self.assertIs(other == one, equal)
        self.assertIs(one != other, not equal)

    def test_the_sets_in_any_order(self):
        sets = BASE + [text("z"), alias(("c", "z"), ("x",)), (("m", "z"), "MX", 4, ((1, ("a",)), (2, ())))]
        for order in itertools.permutations(sets):
            self.check(Zone(ORIGIN, sets), Zone(ORIGIN, order), True)

    def test_the_order_of_the_lists_does_not_change(self):
        zone = Zone(ORIGIN, BASE[::-1])
        self.check(zone, Zone(ORIGIN, BASE), True)
        self.assertEqual(zone.sets, BASE[::-1])

    def test_the_origin_counts(self):
        self.check(Zone(ORIGIN, BASE), Zone((), BASE), False)
        self.check(Zone(("a",), []), Zone(("b",), []), False)
        self.check(Zone(("a",), []), Zone(("a",), []), True)

    def test_each_part_of_a_set_counts(self):
        for other in [(("t", "z"), "A", 70, (1, 2)), (("s", "z"), "TXT", 70, ("a",)), (("s", "z"), "A", 71, (1, 2)),
                      (("s", "z"), "A", 70, (1,)), (("s", "z"), "A", 70, (1, 3)), (("s", "z"), "A", 70, (1, 2, 3))]:
            self.check(Zone(ORIGIN, BASE), Zone(ORIGIN, [SOA, NS, other]), False)

    def test_the_number_of_the_sets_counts(self):
        self.check(Zone(ORIGIN, BASE), Zone(ORIGIN, BASE[:2]), False)
        self.check(Zone(ORIGIN, BASE), Zone(ORIGIN, BASE + [text("z")]), False)
        self.check(Zone(ORIGIN, BASE), Zone(ORIGIN, []), False)
        self.check(Zone(ORIGIN, [HOST, HOST, NS]), Zone(ORIGIN, [HOST, NS, NS]), False)

    def test_a_value_of_another_class_is_not_equal(self):
        zone = Zone(ORIGIN, BASE)
        for other in [None, 0, (), [], BASE, ORIGIN, (ORIGIN, BASE), vars(zone), Zone, "z", object()]:
            self.check(zone, other, False)
        self.assertIs(zone == mock.ANY, False)


class CheckTest(ZoneCase):
    def test_the_least_zones(self):
        self.accept(BASE)
        self.accept([SOA, (ORIGIN, "NS", 80, (("far", "away"),))])
        self.accept([((), "SOA", 0, (((), 0, 0, 0, 0, 0),)), servers((), ()), address()], ())

    def test_a_zone_with_all_that_is_allowed(self):
        self.accept(BASE + [
            text("z"), (ORIGIN, "MX", 5, ((1, ("m", "z")), (2, ("far",)))), (ORIGIN, "A", 5, (7,)),
            text("*", "z"), address("*", "z"), (("*", "w", "z"), "CNAME", 5, (("nowhere", "z"),)),
            alias(("c", "z"), ("c", "z")), text("d", "z"), address("c", "c", "z"),
            servers(("cut", "z"), ("far",), ("n", "cut", "z"), ("cut", "z"), ("s", "z")), address("cut", "z"),
            address("n", "cut", "z"), address("a", "b", "cut", "z"), address("*", "cut", "z"),
            servers(("b", "second", "z"), ("s", "z")), text("second", "z"), text("tcut", "z")])

    def test_rule_1_names_outside_of_the_origin(self):
        for outside in [text(), text("y"), text("z", "y"), text("zz"), alias(("z", "a"), ("z",)),
                        servers((), ("q",)), (("y",), "SOA", 1, SOA[3])]:
            self.refuse(1, BASE + [outside])
        self.refuse(1, BASE, ("b", "z"))
        self.accept([((), *SOA[1:]), ((), *NS[1:]), HOST, text("zz")], ())

    def test_rule_1_two_sets_with_the_same_name_and_kind(self):
        self.refuse(1, BASE + [HOST])
        self.refuse(1, BASE + [(("s", "z"), "A", 5, (9,))])
        self.refuse(1, BASE + [SOA])
        self.refuse(1, BASE + [(ORIGIN, "NS", 1, (("q",),))])
        self.refuse(1, BASE + [alias(("c", "z"), ("x",)), alias(("c", "z"), ("y",))])
        self.accept(BASE + [text("s", "z"), address("s", "s", "z")])

    def test_rule_2_the_star_within_a_name(self):
        for name in [("a", "*", "z"), ("*", "*", "z"), ("a", "b", "*", "z"), ("a", "*", "b", "z")]:
            self.refuse(2, BASE + [text(*name)])
            self.refuse(2, BASE + [address(*name)])
            self.refuse(2, BASE + [alias(name, ("x",))])
        self.accept(BASE + [text("*", "z"), text("*", "a", "z")])

    def test_rule_2_the_star_within_the_origin(self):
        for origin in [("*",), ("*", "z"), ("a", "*"), ("a", "*", "z")]:
            sets = [(origin, *SOA[1:]), (origin, "NS", 1, (("q",),))]
            self.refuse(2, sets, origin)
            self.refuse(2, [], origin)

    def test_rule_2_is_about_the_names_of_sets(self):
        self.accept(BASE + [alias(("c", "z"), ("a", "*", "z")), (("m", "z"), "MX", 1, ((1, ("a", "*", "b")),)),
                            servers(("d", "z"), ("a", "*", "b"))])

    def test_rule_3(self):
        self.refuse(3, [])
        self.refuse(3, [NS, HOST])
        self.refuse(3, [NS, HOST, (("s", "z"), "SOA", 90, SOA[3])])
        self.refuse(3, BASE + [(("s", "z"), "SOA", 90, SOA[3])])
        self.refuse(3, BASE + [(("a", "z"), "SOA", 90, SOA[3])])
        self.refuse(3, [(ORIGIN, "SOA", 90, (SOA[3][0], (("t",), 7, 2, 3, 4, 50))), NS, HOST])

    def test_rule_4(self):
        self.refuse(4, [SOA])
        self.refuse(4, [SOA, HOST])
        self.refuse(4, [SOA, HOST, servers(("s", "z"), ("q",))])
        self.refuse(4, [((), *SOA[1:]), servers(("z",), ("q",))], ())

    def test_rule_5_other_sets_beside_an_alias(self):
        for other in [text("c", "z"), address("c", "z"), servers(("c", "z"), ("q",)), (("c", "z"), "MX", 1, ((1, ()),))]:
            self.refuse(5, BASE + [alias(("c", "z"), ("x",)), other])
        self.refuse(5, BASE + [alias(ORIGIN, ("x",))])
        self.refuse(5, BASE + [alias(("s", "z"), ("x",))])
        self.refuse(5, BASE + [alias(("*", "z"), ("x",)), text("*", "z")])
        self.accept(BASE + [alias(("c", "z"), ("x",)), text("a", "c", "z"), text("d", "z")])

    def test_rule_5_several_values_of_an_alias(self):
        self.refuse(5, BASE + [alias(("c", "z"), ("x",), ("y",))])
        self.refuse(5, BASE + [alias(("b", "z"), ("x",)), alias(("c", "z"), ("x",), ("y",))])
        self.refuse(5, BASE + [alias(("*", "z"), ("x",), ("y",))])

    def test_rule_6(self):
        self.refuse(6, BASE + [servers(("*", "z"), ("s", "z"))])
        self.refuse(6, BASE + [servers(("*", "a", "z"), ("q",))])
        self.refuse(6, BASE + [servers(("d", "z"), ("q",)), servers(("*", "d", "z"), ("q",))])
        self.accept(BASE + [servers(("d", "z"), ("*", "q"))])

    def test_rule_7_other_sets_at_a_cut(self):
        cut = servers(("d", "z"), ("q",))
        self.accept(BASE + [cut, address("d", "z")])
        for other in [text("d", "z"), (("d", "z"), "MX", 1, ((1, ("q",)),))]:
            self.refuse(7, BASE + [cut, other])
            self.refuse(7, BASE + [cut, address("d", "z"), other])

    def test_rule_7_other_sets_below_a_cut(self):
        cut = servers(("d", "z"), ("q",))
        for name in [("a", "d", "z"), ("a", "b", "d", "z"), ("*", "d", "z")]:
            self.accept(BASE + [cut, address(*name)])
            for other in [text(*name), alias(name, ("x",)), (name, "MX", 1, ((1, ("q",)),))]:
                self.refuse(7, BASE + [cut, other])
                self.accept(BASE + [other])
        self.accept(BASE + [cut, text("a", "z"), text("dd", "z"), text("a-d", "z"), text("d", "a", "z")])

    def test_rule_7_a_cut_below_a_cut(self):
        for name in [("a", "d", "z"), ("a", "b", "d", "z")]:
            self.refuse(7, BASE + [servers(("d", "z"), ("q",)), servers(name, ("q",))])
        self.accept(BASE + [servers(("d", "z"), ("q",)), servers(("e", "z"), ("q",))])

    def test_rule_7_the_origin_is_no_cut(self):
        self.accept(BASE + [text("z"), text("a", "z"), servers(("d", "z"), ("q",))])
        self.accept([((), *SOA[1:]), servers((), ("q",)), address("q"), text("a", "b"), servers(("c",), ("q",))], ())

    def test_rule_8(self):
        self.refuse(8, [SOA, NS])
        self.refuse(8, [SOA, NS, text("s", "z")])
        self.refuse(8, [SOA, NS, address("*", "z")])
        self.refuse(8, [SOA, NS, address("a", "s", "z")])
        self.refuse(8, [SOA, servers(ORIGIN, ORIGIN)])
        self.refuse(8, [SOA, servers(ORIGIN, ("q",), ("r", "z"), ("s", "z")), HOST])
        self.refuse(8, [SOA, servers(ORIGIN, ("c", "z")), alias(("c", "z"), ("s", "z")), HOST])
        self.accept([SOA, servers(ORIGIN, ORIGIN), address("z")])
        self.accept([SOA, servers(ORIGIN, ("s", "y"), (), ("zz",))])

    def test_rule_8_for_cuts(self):
        self.refuse(8, BASE + [servers(("d", "z"), ("n", "d", "z"))])
        self.refuse(8, BASE + [servers(("d", "z"), ("d", "z"))])
        self.refuse(8, BASE + [servers(("d", "z"), ("n", "e", "z")), servers(("e", "z"), ("q",))])
        self.accept(BASE + [servers(("d", "z"), ("n", "e", "z")), servers(("e", "z"), ("q",)), address("n", "e", "z")])
        self.accept(BASE + [servers(("d", "z"), ("s", "z"))])

    def test_rule_8_is_about_the_origin_of_the_zone(self):
        # Each name is within the root, so that all servers need addresses.
        self.refuse(8, [((), *SOA[1:]), servers((), ("q",))], ())
        self.refuse(8, [((), *SOA[1:]), servers((), ("q",)), address("q"), servers(("d",), ("r", "e"))], ())
        self.accept([((), *SOA[1:]), servers((), ("q",)), address("q"), servers(("d",), ("r", "e")),
                     address("r", "e")], ())

    def test_the_order_of_the_rules(self):
        # Each step mends the rule that was found, while all later ones are still broken.
        origin = ("z",)
        good = [SOA, NS, HOST]
        eighth = servers(("g", "z"), ("n", "g", "z"))
        seventh = text("g", "z")
        sixth = servers(("*", "z"), ("s", "z"))
        fifth = alias(("s", "z"), ("x",))
        second = text("a", "*", "z")
        self.refuse(1, [text("y"), second, HOST, fifth, sixth, seventh, eighth], origin)
        self.refuse(1, [text("q", "z"), text("q", "z"), second, HOST, fifth, sixth, seventh, eighth], origin)
        self.refuse(2, [second, HOST, fifth, sixth, seventh, eighth], origin)
        self.refuse(3, [HOST, fifth, sixth, seventh, eighth], origin)
        self.refuse(4, [SOA, HOST, fifth, sixth, seventh, eighth], origin)
        self.refuse(5, good + [fifth, sixth, seventh, eighth], origin)
        self.refuse(6, good + [sixth, seventh, eighth], origin)
        self.refuse(7, good + [seventh, eighth], origin)
        self.refuse(8, good + [eighth], origin)
        self.accept(good, origin)

    def test_limits_that_are_passed_raise_no_other_error(self):
        name = ("x" * 64,) * 5 + ORIGIN
        self.accept(BASE + [(name, "TXT", 2147483648, ("x" * 256,)), (name, "A", 2 ** 40, (2 ** 32,))])

    def test_random_sets_against_another_check(self):
        source = random.Random(13)
        names = [("z",), ("a", "z"), ("b", "z"), ("*", "z"), ("a", "b", "z"), ("*", "b", "z"), ("c", "a", "b", "z"),
                 ("a", "*", "z"), ("y",)]
        weights = [4, 9, 9, 3, 9, 3, 9, 1, 1]
        found = {}
        for _ in range(30000):
            sets = [one for one in BASE if source.random() < 0.97]
            for _ in range(source.randint(0, 5)):
                name = source.choices(names, weights)[0]
                kind = source.choices(KINDS, [9, 5, 3, 1, 1, 3])[0]
                values = {"A": (1,), "NS": (source.choices(names, weights)[0],), "CNAME": (("x",),), "SOA": SOA[3],
                          "MX": ((1, ("x",)),), "TXT": ("t",)}[kind]
                sets.append((name, kind, 5, values))
            source.shuffle(sets)
            number = number_in_another_way(ORIGIN, sets)
            found[number] = found.get(number, 0) + 1
            try:
                check_zone(Zone(ORIGIN, sets))
                self.assertIsNone(number, sets)
            except InvalidZone as error:
                self.assertEqual(error.place, number, sets)
        self.assertGreater(min(found[number] for number in [None, *range(1, 9)]), 50, found)


class LookupTest(unittest.TestCase):
    def setUp(self):
        self.zone = zone_of(ORIGIN, BASE + [
            text("z"), text("a", "b", "c", "z"), alias(("l", "z"), ("far", "away")), text("h", "z"), address("h", "z"),
            (("*", "w", "z"), "TXT", 8, ("hi", "ho")), (("*", "w", "z"), "MX", 3, ((1, ("*", "m")),)),
            text("deep", "er", "w", "z"), alias(("*", "v", "z"), ("*", "v", "z")),
            servers(("d", "z"), ("far",), ("m", "d", "z"), ("n", "d", "z"), ("s", "z")), address("d", "z"),
            (("n", "d", "z"), "A", 6, (5,)), (("m", "d", "z"), "A", 4, (8, 9)), address("other", "d", "z"),
            servers(("e", "x", "z"), ("far",))])
        self.cut = servers(("d", "z"), ("far",), ("m", "d", "z"), ("n", "d", "z"), ("s", "z"))
        self.glue = [(("m", "d", "z"), "A", 4, (8, 9)), (("n", "d", "z"), "A", 6, (5,)), HOST]

    def check(self, name, kind, status, sets, glue=(), zone=None):
        with self.subTest(name=name, kind=kind):
            found = lookup(self.zone if zone is None else zone, name, kind)
            self.assertEqual(found, (status, list(sets), list(glue)))
            self.assertEqual([part.__class__ for part in found], [str, list, list])

    def test_the_examples_of_the_document(self):
        sets = [((), "SOA", 9, ((("s",), 1, 2, 3, 4, 5),)), ((), "NS", 9, (("s",),)), (("s",), "A", 9, (7,))]
        zone = zone_of((), sets + [(("*", "w"), "TXT", 8, ("hi",)), (("c",), "NS", 9, (("n", "c"),)),
                                   (("n", "c"), "A", 6, (5,))])
        self.assertEqual(lookup(zone, ("x", "y", "w"), "TXT"),
                         ("answer", [(("x", "y", "w"), "TXT", 8, ("hi",))], []))
        self.assertEqual(lookup(zone, ("w",), "A"), ("no data", [], []))
        self.assertEqual(lookup(zone, ("q", "c"), "A"),
                         ("delegation", [(("c",), "NS", 9, (("n", "c"),))], [(("n", "c"), "A", 6, (5,))]))

    def test_answers(self):
        self.check(("s", "z"), "A", "answer", [HOST])
        self.check(ORIGIN, "SOA", "answer", [SOA])
        self.check(ORIGIN, "NS", "answer", [NS])
        self.check(ORIGIN, "TXT", "answer", [text("z")])
        self.check(("a", "b", "c", "z"), "TXT", "answer", [text("a", "b", "c", "z")])
        self.check(("h", "z"), "A", "answer", [address("h", "z")])
        self.check(("h", "z"), "TXT", "answer", [text("h", "z")])

    def test_aliases(self):
        for kind in ["A", "NS", "SOA", "MX", "TXT"]:
            self.check(("l", "z"), kind, "alias", [alias(("l", "z"), ("far", "away"))])

    def test_the_kind_of_an_alias_is_answered(self):
        self.check(("l", "z"), "CNAME", "answer", [alias(("l", "z"), ("far", "away"))])

    def test_no_data(self):
        self.check(ORIGIN, "A", "no data", [])
        self.check(ORIGIN, "CNAME", "no data", [])
        self.check(("s", "z"), "TXT", "no data", [])
        self.check(("s", "z"), "NS", "no data", [])
        self.check(("h", "z"), "SOA", "no data", [])

    def test_names_without_sets(self):
        for name in [("b", "c", "z"), ("c", "z"), ("w", "z"), ("v", "z"), ("er", "w", "z"), ("x", "z")]:
            for kind in KINDS:
                self.check(name, kind, "no data", [])

    def test_no_name(self):
        for name in [("q", "z"), ("*", "z"), ("x", "a", "b", "c", "z"), ("x", "b", "c", "z"), ("x", "c", "z"),
                     ("x", "s", "z"), ("p", "q", "z"), ("a", "l", "z"), ("q", "x", "z")]:
            for kind in KINDS:
                self.check(name, kind, "no name", [])

    def test_a_name_at_a_cut(self):
        for kind in KINDS:
            self.check(("d", "z"), kind, "delegation", [self.cut], self.glue)

    def test_names_below_a_cut(self):
        for name in [("n", "d", "z"), ("other", "d", "z"), ("q", "d", "z"), ("a", "b", "c", "d", "z"), ("*", "d", "z")]:
            for kind in KINDS:
                self.check(name, kind, "delegation", [self.cut], self.glue)

    def test_a_cut_without_glue(self):
        self.check(("e", "x", "z"), "A", "delegation", [servers(("e", "x", "z"), ("far",))])
        self.check(("q", "e", "x", "z"), "NS", "delegation", [servers(("e", "x", "z"), ("far",))])

    def test_names_beside_a_cut(self):
        self.check(("dd", "z"), "A", "no name", [])
        self.check(("d", "c", "z"), "A", "no name", [])
        self.check(("d", "d", "c", "z"), "A", "no name", [])

    def test_the_glue_is_in_the_order_of_the_values(self):
        names = [("b", "d", "z"), ("aa", "d", "z"), ("a", "d", "z"), ("ab", "z")]
        for order in itertools.permutations([address(*name) for name in names]):
            zone = zone_of(ORIGIN, [*order, *BASE, servers(("d", "z"), *names)])
            self.check(("q", "d", "z"), "A", "delegation", [servers(("d", "z"), *names)],
                       [address(*name) for name in sorted(names)], zone)

    def test_glue_that_is_not_below_the_cut(self):
        zone = zone_of(ORIGIN, BASE + [servers(("d", "z"), ("n", "e", "z"), ("z",)), servers(("e", "z"), ("q",)),
                                       address("n", "e", "z"), address("z")])
        self.check(("d", "z"), "A", "delegation", [servers(("d", "z"), ("n", "e", "z"), ("z",))],
                   [address("n", "e", "z"), address("z")], zone)

    def test_addresses_outside_of_the_origin_are_no_glue(self):
        zone = Zone(ORIGIN, BASE + [servers(("d", "z"), ("far",)), address("far")])
        self.check(("d", "z"), "A", "delegation", [servers(("d", "z"), ("far",))], [], zone)

    def test_cuts_within_cuts(self):
        # No valid zone has them; the cut with the fewest labels is taken in whatever order they stand.
        cuts = [servers(("d", "z"), ("q",)), servers(("c", "d", "z"), ("r",)), servers(("a", "b", "c", "d", "z"), ("t",))]
        for order in itertools.permutations(cuts):
            zone = Zone(ORIGIN, BASE + list(order))
            for name in [("d", "z"), ("c", "d", "z"), ("x", "c", "d", "z"), ("x", "a", "b", "c", "d", "z")]:
                self.check(name, "A", "delegation", [cuts[0]], [], zone)

    def test_the_origin_is_no_cut(self):
        zone = zone_of((), [((), *SOA[1:]), servers((), ("s",)), address("s"), servers(("b", "a"), ("s",))])
        self.check((), "NS", "answer", [servers((), ("s",))], [], zone)
        self.check(("s",), "A", "answer", [address("s")], [], zone)
        self.check(("a",), "NS", "no data", [], [], zone)
        self.check(("b",), "NS", "no name", [], [], zone)
        self.check(("c", "b", "a"), "NS", "delegation", [servers(("b", "a"), ("s",))], [address("s")], zone)

    def test_a_cut_comes_before_wildcards(self):
        zone = zone_of(ORIGIN, BASE + [address("*", "z"), servers(("d", "z"), ("q",)), address("*", "d", "z")])
        self.check(("a", "d", "z"), "A", "delegation", [servers(("d", "z"), ("q",))], [], zone)
        self.check(("a", "dd", "z"), "A", "answer", [address("a", "dd", "z")], [], zone)

    def test_wildcards(self):
        for name in [("q", "w", "z"), ("p", "q", "w", "z"), ("w", "w", "z")]:
            self.check(name, "TXT", "answer", [(name, "TXT", 8, ("hi", "ho"))])
            self.check(name, "MX", "answer", [(name, "MX", 3, ((1, ("*", "m")),))])
            for kind in ["A", "NS", "CNAME", "SOA"]:
                self.check(name, kind, "no data", [])

    def test_wildcards_with_an_alias(self):
        name = ("q", "v", "z")
        for kind in ["A", "NS", "SOA", "MX", "TXT"]:
            self.check(name, kind, "alias", [alias(name, ("*", "v", "z"))])
        self.check(name, "CNAME", "answer", [alias(name, ("*", "v", "z"))])

    def test_the_wildcard_itself(self):
        self.check(("*", "w", "z"), "TXT", "answer", [(("*", "w", "z"), "TXT", 8, ("hi", "ho"))])
        self.check(("*", "w", "z"), "A", "no data", [])
        self.check(("*", "v", "z"), "A", "alias", [alias(("*", "v", "z"), ("*", "v", "z"))])

    def test_names_below_the_wildcard_itself(self):
        # The closest encloser is the wildcard, and nothing is directly below it.
        for name in [("q", "*", "w", "z"), ("*", "*", "w", "z"), ("p", "q", "*", "w", "z")]:
            self.check(name, "TXT", "no name", [])

    def test_only_the_wildcard_below_the_closest_encloser_counts(self):
        # ("er", "w", "z") exists without sets, so that the wildcard of ("w", "z") does not reach below it.
        for name in [("q", "er", "w", "z"), ("p", "q", "er", "w", "z"), ("q", "deep", "er", "w", "z")]:
            self.check(name, "TXT", "no name", [])
        self.check(("er", "w", "z"), "TXT", "no data", [])

    def test_the_longest_of_several_enclosers(self):
        zone = zone_of(ORIGIN, BASE + [(("*", "z"), "A", 1, (1,)), (("*", "a", "z"), "A", 2, (2,)), text("b", "a", "z"),
                                       (("*", "c", "b", "a", "z"), "A", 3, (3,))])
        for name, value in [(("q", "z"), 1), (("p", "q", "z"), 1), (("q", "a", "z"), 2), (("p", "q", "a", "z"), 2),
                            (("q", "c", "b", "a", "z"), 3), (("p", "q", "c", "b", "a", "z"), 3)]:
            self.check(name, "A", "answer", [(name, "A", value, (value,))], [], zone)
        for name in [("q", "b", "a", "z"), ("p", "q", "b", "a", "z"), ("q", "s", "z")]:
            self.check(name, "A", "no name", [], [], zone)
        for name in [("a", "z"), ("b", "a", "z"), ("c", "b", "a", "z")]:
            self.check(name, "A", "no data", [], [], zone)

    def test_a_wildcard_at_the_root(self):
        zone = zone_of((), [((), *SOA[1:]), servers((), ("s",)), address("s"), text("*")])
        self.check(("a", "b"), "TXT", "answer", [text("a", "b")], [], zone)
        self.check(("s",), "TXT", "no data", [], [], zone)
        self.check(("a", "s"), "TXT", "no name", [], [], zone)
        self.check((), "TXT", "no data", [], [], zone)

    def test_names_beyond_the_largest_size(self):
        name = ("x" * 64,) * 5 + ("w", "z")
        self.check(name, "TXT", "answer", [(name, "TXT", 8, ("hi", "ho"))])
        self.check(("x" * 64,) * 5 + ("z",), "TXT", "no name", [])

    def test_the_order_of_the_sets_does_not_matter(self):
        source = random.Random(15)
        names = [set_[0] for set_ in self.zone.sets]
        names += [("q", *name) for name in names] + [("p", "q", *name) for name in names]
        for _ in range(5):
            sets = list(self.zone.sets)
            source.shuffle(sets)
            zone = zone_of(ORIGIN, sets)
            for name, kind in itertools.product(names, KINDS):
                self.assertEqual(lookup(zone, name, kind), lookup(self.zone, name, kind))


    def test_random_zones_against_another_lookup(self):
        source = random.Random(16)
        found = {}
        for _ in range(4000):
            names = [tuple(source.choice("*ab" if at == 0 else "ab") for at in range(length)) + ORIGIN
                     for length in source.choices([0, 1, 2, 3], k=6)]
            sets = list(BASE)
            for name in names:
                kind = source.choice(["A", "TXT", "CNAME", "NS", "A"])
                sets.append({"A": address(*name), "TXT": text(*name), "CNAME": alias(name, ("x",)),
                             "NS": servers(name, source.choice(names), ("far",), ("s", "z"))}[kind])
            if number_in_another_way(ORIGIN, sets) is not None:
                continue
            zone = zone_of(ORIGIN, sets)
            for _ in range(15):
                name = tuple(source.choice("*aabb") for _ in range(source.randint(0, 4))) + ORIGIN
                kind = source.choice(KINDS)
                result = lookup(zone, name, kind)
                self.assertEqual(result, lookup_in_another_way(ORIGIN, sets, name, kind))
                found[result[0]] = found.get(result[0], 0) + 1
        self.assertGreater(min(found[status] for status in ("delegation", "answer", "alias", "no data", "no name")),
                           50, found)


class ArgumentsTest(unittest.TestCase):
    def test_the_arguments_do_not_change(self):
        sets = BASE + [text("*", "w", "z"), servers(("d", "z"), ("n", "d", "z")), address("n", "d", "z"), text("z")]
        before = copy.deepcopy(sets)
        zone = zone_of(ORIGIN, sets)
        other = Zone(ORIGIN, sets[::-1])
        self.assertEqual(sets, before)
        check_zone(zone)
        zone == other
        zone.soa(), zone.serial(), zone.negative_set(), zone.exists(("w", "z")), zone.find_set(ORIGIN, "A")
        for name, kind in itertools.product([ORIGIN, ("a", "w", "z"), ("a", "d", "z"), ("q", "z")], KINDS):
            _, found, glue = lookup(zone, name, kind)
            found.clear()
            glue.clear()
        self.assertEqual((vars(zone), vars(other)),
                         ({"origin": ORIGIN, "sets": before}, {"origin": ORIGIN, "sets": before[::-1]}))

    def test_a_zone_that_is_not_valid_does_not_change(self):
        sets = [NS, HOST, HOST]
        zone = Zone(ORIGIN, sets)
        with self.assertRaises(InvalidZone):
            check_zone(zone)
        with self.assertRaises(InvalidZone):
            zone_of(ORIGIN, sets)
        self.assertEqual((zone.sets, sets), ([NS, HOST, HOST], [NS, HOST, HOST]))
