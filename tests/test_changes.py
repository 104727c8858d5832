"""Tests of zoneward.changes: points 1 and 21 to 25."""

import copy
import inspect
import itertools
import random
import unittest

from zoneward import changes
from zoneward.changes import apply_difference, difference, edit_zone, is_later, next_serial
from zoneward.errors import InvalidDifference, InvalidZone
from zoneward.zones import Zone, check_zone, zone_of

ORIGIN = ("z",)
NS = (ORIGIN, "NS", 80, (("s", "z"),))
HOST = (("s", "z"), "A", 70, (1, 2))
TOP = 2 ** 32 - 1


def soa(serial=7, ttl=90, minimum=50):
    return (ORIGIN, "SOA", ttl, ((("s", "z"), serial, 2, 3, 4, minimum),))


def text(*labels, ttl=5, value="t"):
    return (labels + ORIGIN, "TXT", ttl, (value,))


def address(*labels, value=9):
    return (labels + ORIGIN, "A", 5, (value,))


SETS = [text("a"), soa(), address("b"), NS, HOST, text("c"), address("a")]
ZONE = zone_of(ORIGIN, SETS)


def edited_in_another_way(sets, acts):
    """The sets after acts, in their order, by a dict from which what is put anew is taken out first."""
    table = {one[:2]: one for one in sets}
    for act in acts:
        if act[0] == "put":
            table[act[1][:2]] = act[1]
        else:
            table.pop(act[1:], None)
    name, kind, ttl, ((primary, serial, *others),) = table[ORIGIN, "SOA"]
    table[ORIGIN, "SOA"] = (name, kind, ttl, ((primary, 0 if serial == TOP else serial + 1, *others),))
    return list(table.values())


class InterfaceTest(unittest.TestCase):
    def test_the_functions_and_their_arguments(self):
        arguments = {"is_later": "(serial, other)", "next_serial": "(serial)", "edit_zone": "(zone, acts)",
                     "difference": "(old, new)", "apply_difference": "(zone, change)"}
        for name, signature in arguments.items():
            function = getattr(changes, name)
            self.assertEqual(function.__module__, "zoneward.changes")
            self.assertEqual(str(inspect.signature(function)), signature)


class SerialTest(unittest.TestCase):
    def test_is_later(self):
        for start in (0, 1, 5, 2 ** 31 - 1, 2 ** 31, 2 ** 31 + 1, TOP - 1, TOP):
            for step, later in [(0, False), (1, True), (2, True), (2 ** 31 - 2, True), (2 ** 31 - 1, True),
                                (2 ** 31, False), (2 ** 31 + 1, False), (2 ** 31 + 2, False), (TOP - 1, False),
                                (TOP, False)]:
                with self.subTest(start=start, step=step):
                    self.assertIs(is_later((start + step) % 2 ** 32, start), later)

    def test_around_the_end(self):
        self.assertIs(is_later(0, TOP), True)
        self.assertIs(is_later(TOP, 0), False)
        self.assertIs(is_later(2 ** 31 - 2, TOP), True)
        self.assertIs(is_later(2 ** 31 - 1, TOP), False)
        self.assertIs(is_later(2 ** 31, 0), False)
        self.assertIs(is_later(0, 2 ** 31), False)
        self.assertIs(is_later(2 ** 31, 1), True)
        self.assertIs(is_later(0, 2 ** 31 + 1), True)

    def test_the_order_of_the_arguments(self):
        self.assertIs(is_later(2, 1), True)
        self.assertIs(is_later(1, 2), False)

    def test_next_serial(self):
        for serial, follower in [(0, 1), (1, 2), (2 ** 31 - 1, 2 ** 31), (2 ** 31, 2 ** 31 + 1), (TOP - 1, TOP),
                                 (TOP, 0)]:
            self.assertEqual(next_serial(serial), follower)
            self.assertIs(is_later(next_serial(serial), serial), True)


class EditTest(unittest.TestCase):
    def check(self, acts, sets, zone=ZONE):
        """The acts lead to the sets, in this order."""
        with self.subTest(acts=acts):
            before = copy.deepcopy((zone.origin, zone.sets, acts))
            found = edit_zone(zone, acts)
            self.assertIs(found.__class__, Zone)
            self.assertEqual((found.origin, found.sets), (zone.origin, sets))
            self.assertEqual(edited_in_another_way(zone.sets, acts), sets)
            self.assertEqual((zone.origin, zone.sets, acts), before)

    def refuse(self, number, acts, zone=ZONE):
        before = copy.deepcopy((zone.origin, zone.sets, acts))
        with self.subTest(acts=acts):
            with self.assertRaises(InvalidZone) as context:
                edit_zone(zone, acts)
            self.assertIs(context.exception.__class__, InvalidZone)
            self.assertEqual(context.exception.place, number)
            self.assertEqual((zone.origin, zone.sets, acts), before)

    def changed(self, at=None, new=None):
        sets = [soa(8) if one[1] == "SOA" else one for one in SETS]
        if at is not None:
            sets[at:at + 1] = new
        return sets

    def test_no_acts(self):
        self.check([], self.changed())

    def test_a_put_replaces(self):
        self.check([("put", text("a", ttl=1, value="x"))], self.changed(0, [text("a", ttl=1, value="x")]))
        self.check([("put", text("a"))], self.changed())
        self.check([("put", (ORIGIN, "NS", 3, (("q",), ("s", "z"))))],
                   self.changed(3, [(ORIGIN, "NS", 3, (("q",), ("s", "z")))]))

    def test_a_put_adds_at_the_end(self):
        self.check([("put", text("d"))], self.changed() + [text("d")])
        self.check([("put", text())], self.changed() + [text()])
        self.check([("put", text("b"))], self.changed() + [text("b")])
        self.check([("put", text("e")), ("put", text("d"))], self.changed() + [text("e"), text("d")])

    def test_a_drop(self):
        self.check([("drop", ("a", "z"), "TXT")], self.changed(0, []))
        self.check([("drop", ("a", "z"), "A")], self.changed(6, []))
        self.check([("drop", ("a", "z"), "A"), ("drop", ("a", "z"), "A")], self.changed(6, []))

    def test_a_drop_of_what_is_not_there(self):
        for name, kind in [(("d", "z"), "A"), (("b", "z"), "TXT"), (("a",), "A"), ((), "A"), (("y",), "NS")]:
            self.check([("drop", name, kind)], self.changed())

    def test_several_acts_on_the_same_name_and_kind(self):
        one, other = text("a", value="1"), text("a", value="2")
        self.check([("put", one), ("put", other)], self.changed(0, [other]))
        self.check([("put", other), ("put", one)], self.changed(0, [one]))
        self.check([("put", one), ("drop", ("a", "z"), "TXT")], self.changed(0, []))
        self.check([("drop", ("a", "z"), "TXT"), ("put", one)], self.changed(0, []) + [one])
        self.check([("drop", ("a", "z"), "TXT"), ("put", text("a"))], self.changed(0, []) + [text("a")])
        self.check([("put", text("d")), ("drop", ("d", "z"), "TXT")], self.changed())
        self.check([("put", text("d", value="1")), ("put", text("e")), ("put", text("d", value="2"))],
                   self.changed() + [text("d", value="2"), text("e")])

    def test_what_is_between_need_not_be_valid(self):
        self.check([("drop", ("s", "z"), "A"), ("put", address("s"))], self.changed(4, []) + [address("s")])
        self.check([("drop", ORIGIN, "NS"), ("put", NS)], self.changed(3, []) + [NS])
        self.check([("put", (("c", "z"), "CNAME", 1, (("x",),))), ("drop", ("c", "z"), "TXT")],
                   self.changed(5, []) + [(("c", "z"), "CNAME", 1, (("x",),))])

    def test_serials(self):
        for serial, follower in [(0, 1), (2 ** 31 - 1, 2 ** 31), (TOP - 1, TOP), (TOP, 0)]:
            zone = zone_of(ORIGIN, [NS, HOST, soa(serial)])
            self.check([], [NS, HOST, soa(follower)], zone)
            self.check([("put", text())], [NS, HOST, soa(follower), text()], zone)

    def test_all_else_of_the_soa_set_stays(self):
        zone = zone_of(ORIGIN, [NS, (ORIGIN, "SOA", 1, ((("p",), 2, 3, 4, 5, 6),)), HOST])
        self.check([], [NS, (ORIGIN, "SOA", 1, ((("p",), 3, 3, 4, 5, 6),)), HOST], zone)

    def test_each_edit_gives_the_next_serial(self):
        zone = zone_of(ORIGIN, [soa(TOP - 2), NS, HOST])
        for serial in (TOP - 1, TOP, 0, 1):
            zone = edit_zone(zone, [])
            self.assertEqual(zone.serial(), serial)

    def test_rules_that_an_edit_breaks(self):
        cut = (("d", "z"), "NS", 1, (("q",),))
        broken = {
            1: [[("put", (("y",), "A", 1, (1,)))], [("put", ((), "TXT", 1, ("x",)))]],
            2: [[("put", text("a", "*"))], [("put", address("*", "*"))]],
            4: [[("drop", ORIGIN, "NS")]],
            5: [[("put", (("a", "z"), "CNAME", 1, (("x",),)))], [("put", (ORIGIN, "CNAME", 1, (("x",),)))],
                [("put", (("d", "z"), "CNAME", 1, (("x",), ("y",))))]],
            6: [[("put", (("*", "z"), "NS", 1, (("q",),)))]],
            7: [[("put", cut), ("put", text("d"))], [("put", cut), ("put", text("e", "d"))],
                [("put", (("a", "z"), "NS", 1, (("q",),)))],
                [("put", cut), ("put", (("e", "d", "z"), "NS", 1, (("q",),)))]],
            8: [[("drop", ("s", "z"), "A")], [("put", (ORIGIN, "NS", 1, (("t", "z"),)))],
                [("put", (("d", "z"), "NS", 1, (("n", "d", "z"),)))]]}
        for number, edits in broken.items():
            for acts in edits:
                self.refuse(number, acts)
                self.refuse(number, [("put", text("q"))] + acts + [("drop", ("c", "z"), "TXT")])

    def test_the_soa_rule_holds_for_what_is_given(self):
        self.refuse(3, [], Zone(ORIGIN, [NS, HOST]))
        self.refuse(1, [], Zone(ORIGIN, [soa(), NS, HOST, HOST]))
        self.refuse(3, [], Zone(ORIGIN, [(ORIGIN, "SOA", 90, soa()[3] + soa(9)[3]), NS, HOST]))

    def test_random_acts_against_another_edit(self):
        source = random.Random(23)
        valid = 0
        for _ in range(3000):
            acts = []
            for _ in range(source.randint(0, 6)):
                name = source.choice([("a",), ("b",), ("c",), ("s",), ("d",)])
                put = source.choice([text(*name, value="n"), address(*name, value=4), text(*name), address(*name)])
                acts.append(source.choice([("put", put), ("drop", *put[:2])]))
            expected = Zone(ORIGIN, edited_in_another_way(SETS, acts))
            try:
                check_zone(expected)
            except InvalidZone as error:
                self.refuse(error.place, acts)
                continue
            valid += 1
            self.check(acts, expected.sets)
        self.assertGreater(valid, 1000)


class DifferenceTest(unittest.TestCase):
    def check(self, old, new, removed, added):
        with self.subTest(old=old, new=new):
            one, other = zone_of(ORIGIN, old), zone_of(ORIGIN, new)
            change = difference(one, other)
            self.assertEqual(change, (one.soa(), removed, other.soa(), added))
            self.assertEqual([part.__class__ for part in change], [tuple, list, tuple, list])
            self.assertEqual((one.sets, other.sets), (old, new))
            self.assertEqual(apply_difference(one, change), other)

    def test_the_same_sets(self):
        self.check(SETS, SETS, [], [])
        self.check([soa(), NS, HOST], [soa(8), NS, HOST], [], [])
        self.check([soa(), NS, HOST], [HOST, NS, soa(8, ttl=1, minimum=2)], [], [])

    def test_sets_that_were_removed(self):
        self.check(SETS, [soa(8), address("b"), NS, HOST], [text("a"), text("c"), address("a")], [])

    def test_sets_that_were_added(self):
        self.check([soa(), NS, HOST], [text("q"), soa(8), NS, address("p"), HOST, text("r")], [],
                   [text("q"), address("p"), text("r")])

    def test_sets_that_changed(self):
        for new in (text("a", ttl=6), text("a", value="u"), (("a", "z"), "TXT", 5, ("t", "u"))):
            self.check([soa(), text("a"), NS, HOST], [soa(8), new, NS, HOST], [text("a")], [new])
            self.check([soa(), text("a"), NS, HOST], [soa(8), NS, HOST, new], [text("a")], [new])

    def test_sets_of_another_name_or_kind(self):
        self.check([soa(), NS, HOST, text("a")], [soa(8), NS, HOST, text("b")], [text("a")], [text("b")])
        self.check([soa(), NS, HOST, text("a")], [soa(8), NS, HOST, address("a")], [text("a")], [address("a")])

    def test_sets_that_moved(self):
        for order in itertools.permutations([text("a"), NS, HOST, soa(8)]):
            self.check([soa(), text("a"), NS, HOST], list(order), [], [])

    def test_each_list_has_the_order_of_its_version(self):
        old = [text("d"), text("a"), soa(), text("c"), NS, HOST, text("b")]
        new = [address("b"), HOST, address("a"), NS, text("c", ttl=1), address("d"), soa(8)]
        self.check(old, new, [text("d"), text("a"), text("c"), text("b")],
                   [address("b"), address("a"), text("c", ttl=1), address("d")])

    def test_the_soa_sets_are_given_whatever_they_are(self):
        self.check([soa(9), NS, HOST], [soa(3), NS, HOST], [], [])
        self.check([soa(9), NS, HOST], [soa(9), NS, HOST], [], [])

    def test_edits(self):
        for acts, removed, added in [
                ([], [], []), ([("put", text("a"))], [], []), ([("drop", ("q", "z"), "A")], [], []),
                ([("drop", ("a", "z"), "TXT"), ("put", text("a"))], [], []),
                ([("drop", ("a", "z"), "TXT")], [text("a")], []), ([("put", text("q"))], [], [text("q")]),
                ([("put", text("a", ttl=9))], [text("a")], [text("a", ttl=9)]),
                ([("put", text("q")), ("drop", ("q", "z"), "TXT")], [], [])]:
            new = edit_zone(ZONE, acts)
            self.assertEqual(difference(ZONE, new), (soa(7), removed, soa(8), added))


class ApplyTest(unittest.TestCase):
    def refuse(self, change, zone=ZONE):
        before = copy.deepcopy((zone.sets, change))
        with self.subTest(change=change):
            with self.assertRaises(InvalidDifference) as context:
                apply_difference(zone, change)
            self.assertIs(context.exception.__class__, InvalidDifference)
            self.assertEqual(context.exception.place, 0)
            self.assertEqual((zone.sets, change), before)

    def check(self, change, sets, zone=ZONE):
        before = copy.deepcopy((zone.sets, change))
        with self.subTest(change=change):
            found = apply_difference(zone, change)
            self.assertIs(found.__class__, Zone)
            self.assertEqual((found.origin, found.sets), (zone.origin, sets))
            self.assertEqual((zone.sets, change), before)

    def test_the_order_of_the_sets_of_the_result(self):
        self.check((soa(), [], soa(8), []), [text("a"), soa(8), address("b"), NS, HOST, text("c"), address("a")])
        self.check((soa(), [text("c"), text("a")], soa(8), [text("e"), text("d")]),
                   [soa(8), address("b"), NS, HOST, address("a"), text("e"), text("d")])
        self.check((soa(), [text("a")], soa(8), [text("a", value="new")]),
                   [soa(8), address("b"), NS, HOST, text("c"), address("a"), text("a", value="new")])
        self.check((soa(), [text("a")], soa(8), [text("a")]),
                   [soa(8), address("b"), NS, HOST, text("c"), address("a"), text("a")])

    def test_the_result_need_not_be_valid(self):
        self.check((soa(), [NS, HOST], soa(8), [text("*", "*")]),
                   [text("a"), soa(8), address("b"), text("c"), address("a"), text("*", "*")])
        self.check((soa(), [], soa(8), [text("d"), text("d")]), [
            text("a"), soa(8), address("b"), NS, HOST, text("c"), address("a"), text("d"), text("d")])
        self.check((soa(), [], soa(), []), SETS)

    def test_the_zone_need_not_be_valid(self):
        zone = Zone(ORIGIN, [text("a"), soa()])
        self.check((soa(), [text("a")], soa(6), [HOST]), [soa(6), HOST], zone)
        self.check((soa(), [], soa(6), []), [text("a"), soa(6)], zone)

    def test_another_soa_set(self):
        for other in (soa(6), soa(8), soa(ttl=91), soa(minimum=51), (ORIGIN, "SOA", 90, soa()[3] + soa(8)[3]),
                      ((), "SOA", 90, soa()[3])):
            self.refuse((other, [], soa(8), []))
            self.refuse((other, [text("a")], soa(), [text("d")]))

    def test_removed_sets_that_are_not_there(self):
        for missing in (text("d"), text("a", ttl=6), text("a", value="u"), (("a", "z"), "TXT", 5, ("t", "u")),
                        (("a",), "TXT", 5, ("t",)), (("c", "z"), "A", 5, (9,))):
            self.refuse((soa(), [missing], soa(8), []))
            self.refuse((soa(), [text("a"), missing, text("c")], soa(8), []))
            self.refuse((soa(), [missing], soa(8), [missing]))

    def test_added_sets_beside_a_set_that_remains(self):
        for added in (text("a"), text("a", ttl=1), text("a", value="u"), (ORIGIN, "NS", 1, (("q",),))):
            self.refuse((soa(), [], soa(8), [added]))
            self.refuse((soa(), [text("c")], soa(8), [text("d"), added]))
        self.refuse((soa(), [address("a")], soa(8), [text("a")]))
        self.refuse((soa(), [], soa(8), [soa(8)]))

    def test_added_sets_of_another_name_or_kind(self):
        for added in (text("b"), address("c"), text("d"), (("a", "a", "z"), "TXT", 1, ("x",))):
            self.check((soa(), [], soa(8), [added]),
                       [text("a"), soa(8), address("b"), NS, HOST, text("c"), address("a"), added])

    def test_a_difference_applies_once(self):
        change = difference(ZONE, edit_zone(ZONE, [("put", text("d"))]))
        self.refuse(change, apply_difference(ZONE, change))

    def test_random_versions(self):
        source = random.Random(25)
        zone = ZONE
        copied = zone_of(ORIGIN, SETS[::-1])
        for _ in range(1500):
            acts = []
            for _ in range(source.randint(0, 4)):
                name = source.choice(["a", "b", "c", "d"])
                put = source.choice([text(name, value=source.choice("tu")), address(name, value=source.randint(1, 3))])
                acts.append(source.choice([("put", put), ("drop", *put[:2])]))
            new = edit_zone(zone, acts)
            change = difference(zone, new)
            self.assertEqual(set(change[1]), set(zone.sets) - set(new.sets) - {zone.soa()})
            self.assertEqual(set(change[3]), set(new.sets) - set(zone.sets) - {new.soa()})
            copied = apply_difference(copied, change)
            self.assertEqual(copied, new)
            check_zone(copied)
            if change[1]:
                self.refuse((change[0], change[1] + [text("zz")], *change[2:]), zone)
                self.refuse((change[0], change[1][1:], change[2], change[3] + change[1][:1]), zone)
            zone = new


class ArgumentsTest(unittest.TestCase):
    def test_results_do_not_share_lists_with_the_arguments(self):
        zone = zone_of(ORIGIN, SETS)
        edit_zone(zone, []).sets.clear()
        new = edit_zone(zone, [("put", text("d"))])
        change = difference(zone, new)
        found = apply_difference(zone, change)
        found.sets.append(text("e"))
        self.assertEqual((zone.sets, change), (SETS, (soa(), [], soa(8), [text("d")])))
        change[1].append(text("e"))
        change[3].clear()
        self.assertEqual((zone.sets, new.sets), (SETS, [soa(8) if one[1] == "SOA" else one for one in SETS]
                                                 + [text("d")]))
