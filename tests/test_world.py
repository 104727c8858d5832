"""Tests of zoneward.world: points 1 and 44 to 46."""

import copy
import inspect
import unittest

from zoneward import world as world_module
from zoneward.errors import InvalidZone
from zoneward.messages import Message, write_message
from zoneward.resolver import Resolver
from zoneward.servers import Authority, Primary, Secondary
from zoneward.world import World
from zoneward.zones import zone_of

SETS = [((), "SOA", 9, ((("s",), 1, 2, 3, 4, 5),)), ((), "NS", 9, (("s",),)), (("s",), "A", 9, (7,))]


def root_zone(*more):
    return zone_of((), SETS + list(more))


def text(label, value="t", ttl=50):
    return ((label,), "TXT", ttl, (value,))


class Listener(Authority):
    """An authority that notes the queries that it gets, each with the time."""

    def __init__(self, holders=()):
        Authority.__init__(self, list(holders))
        self.heard = []

    def answer(self, now, query):
        self.heard.append((now, query.number, query.question))
        return Authority.answer(self, now, query)


class Notebook(Resolver):
    """A resolver that notes in a shared list what it gets and when it is asked for what is due."""

    def __init__(self, address, notes):
        Resolver.__init__(self, [7], 9)
        self.address = address
        self.notes = notes

    def receive(self, now, source, message):
        self.notes.append((now, self.address, "receive", source, message))
        return Resolver.receive(self, now, source, message)

    def due(self, now):
        self.notes.append((now, self.address, "due"))
        return Resolver.due(self, now)


def small_world(fates=(), holders=None):
    """A world with one resolver and one authority that serves the root."""
    world = World(list(fates))
    authority = Listener([Primary(root_zone())] if holders is None else holders)
    world.add_authority(7, authority)
    world.add_resolver(1, Resolver([7], 50))
    return world, authority


def told(world):
    return [(time, client, message.code, message.answer) for time, client, message in world.replies]


class InterfaceTest(unittest.TestCase):
    def test_the_methods_stand_in_the_class_itself(self):
        arguments = {"__init__": "(self, fates)", "add_authority": "(self, address, authority)",
                     "add_resolver": "(self, address, resolver)", "ask": "(self, address, client, name, kind)",
                     "edit": "(self, address, origin, acts)", "pass_second": "(self)", "run": "(self, seconds)"}
        self.assertEqual(World.__module__, world_module.__name__)
        for name, signature in arguments.items():
            self.assertEqual(str(inspect.signature(vars(World)[name])), signature)

    def test_the_attributes(self):
        for fates in ([], [0, 1, 2, 3]):
            world = World(fates)
            self.assertEqual((world.now, world.sent, world.replies), (0, 0, []))
        self.assertIs(world.replies.__class__, list)

    def test_the_example_of_the_document(self):
        world = World([])
        world.add_authority(7, Authority([Primary(zone_of((), SETS))]))
        world.add_resolver(1, Resolver([7], 50))
        world.ask(1, 99, ("s",), "A")
        world.run(3)
        world.ask(1, 98, ("t",), "A")
        world.run(2)
        self.assertEqual(told(world), [(2, 99, 0, [(("s",), "A", 9, 7)]), (5, 98, 3, [])])

    def test_the_methods_return_none(self):
        world, _ = small_world()
        for call in (lambda: world.add_authority(8, Authority([])), lambda: world.add_resolver(2, Resolver([7], 5)),
                     lambda: world.ask(1, 99, ("s",), "A"), lambda: world.edit(7, (), []), world.pass_second,
                     lambda: world.run(0), lambda: world.run(2)):
            self.assertIsNone(call())

    def test_the_fates_do_not_change(self):
        fates = [2, 0, 3, 1]
        world = World(fates)
        world.add_authority(7, Authority([Primary(zone_of((), SETS))]))
        world.add_resolver(1, Resolver([7], 50))
        for client in range(4):
            world.ask(1, client, ("s",), "A")
        world.run(9)
        self.assertEqual(fates, [2, 0, 3, 1])
        fates.clear()
        self.assertEqual(len(world.replies), 4)

    def test_fates_that_change_later(self):
        fates = [2]
        world = World(fates)
        world.add_authority(7, Authority([Primary(zone_of((), SETS))]))
        world.add_resolver(1, Resolver([7], 50))
        fates.clear()
        world.ask(1, 99, ("s",), "A")
        world.run(3)
        self.assertEqual(told(world), [(3, 99, 2, [])])

    def test_an_empty_world(self):
        world = World([])
        world.run(3)
        self.assertEqual((world.now, world.sent, world.replies), (3, 0, []))


class FatesTest(unittest.TestCase):
    ANSWER = [(("s",), "A", 9, 7)]

    def check(self, fates, heard, replies, sent, seconds=10):
        """What the authority hears and the client is told, if the client asks at the time 0."""
        with self.subTest(fates=fates):
            world, authority = small_world(fates)
            world.ask(1, 99, ("s",), "A")
            world.run(seconds)
            self.assertEqual([now for now, _, _ in authority.heard], heard)
            self.assertEqual(told(world), replies)
            self.assertEqual((world.sent, world.now), (sent, seconds))

    def test_fate_0(self):
        self.check([], [1], [(2, 99, 0, self.ANSWER)], 2)
        self.check([0], [1], [(2, 99, 0, self.ANSWER)], 2)
        self.check([0, 0, 0, 0], [1], [(2, 99, 0, self.ANSWER)], 2)

    def test_fate_1(self):
        self.check([1], [4], [(3, 99, 2, [])], 2)
        self.check([0, 1], [1], [(3, 99, 2, [])], 2)

    def test_fate_2(self):
        self.check([2], [], [(3, 99, 2, [])], 1)
        self.check([0, 2], [1], [(3, 99, 2, [])], 2)

    def test_fate_3(self):
        self.check([3], [1, 3], [(2, 99, 0, self.ANSWER)], 3)
        self.check([0, 3], [1], [(2, 99, 0, self.ANSWER)], 2)
        # The first response is lost; the query's second copy arrives too late for the second one.
        self.check([3, 2], [1, 3], [(3, 99, 2, [])], 3)

    def test_fates_beyond_the_limit_raise_no_error(self):
        self.check([4, 9], [1], [(2, 99, 0, self.ANSWER)], 2)
        self.check([-1], [1], [(2, 99, 0, self.ANSWER)], 2)

    def test_responses_to_clients_have_no_fate(self):
        self.check([0, 0, 2], [1], [(2, 99, 0, self.ANSWER)], 2)
        world, _ = small_world([0, 0, 2])
        world.ask(1, 99, ("s",), "A")
        world.run(2)
        world.ask(1, 98, ("s",), "A")
        self.assertEqual((told(world), world.sent), ([(2, 99, 0, self.ANSWER), (2, 98, 0, self.ANSWER)], 2))

    def test_fates_are_taken_one_after_another(self):
        world, authority = small_world([0, 1, 2, 3])
        for number in range(6):
            world.ask(1, number, (f"n{number}",), "A")
        self.assertEqual(world.sent, 6)
        world.pass_second()
        self.assertEqual([number for _, number, _ in authority.heard], [0, 3, 4, 5])
        self.assertEqual(world.sent, 10)
        world.run(2)
        self.assertEqual(authority.heard[4:], [(3, 3, (("n3",), "A"))])
        world.run(1)
        self.assertEqual(authority.heard[5:], [(4, 1, (("n1",), "A"))])
        world.run(9)
        self.assertEqual(len(authority.heard), 6)

    def test_messages_to_addresses_without_a_host(self):
        world = World([2, 1, 0, 3])
        world.add_resolver(1, Resolver([5, 6], 50))
        world.ask(1, 99, ("s",), "A")
        self.assertEqual(world.sent, 1)
        world.run(3)
        self.assertEqual((world.sent, world.replies), (2, []))
        world.run(3)
        self.assertEqual((world.sent, told(world)), (2, [(6, 99, 2, [])]))
        world.add_authority(7, Authority([]))
        world.run(9)
        self.assertEqual(world.sent, 2)

    def test_a_message_without_a_host_takes_a_fate(self):
        world = World([0, 2])
        world.add_resolver(1, Resolver([5, 7], 50))
        authority = Listener([Primary(root_zone())])
        world.add_authority(7, authority)
        world.ask(1, 99, ("s",), "A")
        world.run(9)
        self.assertEqual((authority.heard, told(world), world.sent), ([], [(6, 99, 2, [])], 2))

    def test_messages_that_cannot_be_read(self):
        world, authority = small_world()
        for client, name in enumerate([("x" * 64,), ("x" * 63,) * 4, ("%",), ("x" * 63,)]):
            world.ask(1, client, name, "A")
        world.run(3)
        self.assertEqual([question for _, _, question in authority.heard], [(("x" * 63,), "A")])
        self.assertEqual(world.sent, 5)
        self.assertEqual([(time, client, message.code) for time, client, message in world.replies],
                         [(2, 3, 3), (3, 0, 2), (3, 1, 2), (3, 2, 2)])

    def test_responses_that_cannot_be_read(self):
        world, _ = small_world(holders=[Primary(root_zone(text("t", "x" * 256), text("u", "{}~ !$&'", 2 ** 31 - 1)))])
        world.ask(1, 99, ("t",), "TXT")
        world.ask(1, 98, ("u",), "TXT")
        world.run(3)
        self.assertEqual(told(world), [(2, 98, 0, [(("u",), "TXT", 86400, "{}~ !$&'")]), (3, 99, 2, [])])


class OrderTest(unittest.TestCase):
    def test_messages_arrive_in_the_order_in_which_they_were_sent(self):
        # All of the first five arrive at the time 4.
        world, authority = small_world([1, 2, 3, 0, 0])
        world.ask(1, 0, ("a",), "A")
        world.ask(1, 1, ("lost",), "A")
        world.pass_second()
        world.ask(1, 2, ("b",), "A")
        world.run(1)
        self.assertEqual(authority.heard, [(2, 2, (("b",), "A"))])
        world.run(1)
        world.ask(1, 3, ("c",), "A")
        self.assertEqual(authority.heard[1:], [])
        world.run(1)
        self.assertEqual([question[0] for now, _, question in authority.heard if now == 4], [("a",), ("b",), ("c",)])

    def test_a_later_message_may_arrive_earlier(self):
        world, authority = small_world([1, 0])
        world.ask(1, 0, ("a",), "A")
        world.pass_second()
        world.ask(1, 1, ("b",), "A")
        world.run(5)
        self.assertEqual([(now, question[0]) for now, _, question in authority.heard], [(2, ("b",)), (4, ("a",))])

    def test_deliveries_come_before_what_is_due(self):
        notes = []
        world = World([3, 2])
        world.add_authority(7, Authority([Primary(root_zone())]))
        for address in (9, 2, 5):
            world.add_resolver(address, Notebook(address, notes))
        world.ask(9, 99, ("s",), "A")
        world.run(4)
        self.assertEqual([note[:3] for note in notes],
                         [(now, address, "due") for now in (1, 2, 3) for address in (2, 5, 9)]
                         + [(4, 9, "receive")] + [(4, address, "due") for address in (2, 5, 9)])
        self.assertEqual(notes[9][3], 7)
        self.assertEqual(notes[9][4].question, (("s",), "A"))

    def test_a_response_that_comes_too_late(self):
        # The first response is lost; that to the second copy of the query arrives after 4 seconds.
        world, _ = small_world([3, 2, 0])
        resolver = Resolver([7], 50)
        world.add_resolver(2, resolver)
        world.ask(2, 99, ("s",), "A")
        world.run(9)
        self.assertEqual((told(world), resolver.cache.size()), ([(3, 99, 2, [])], 0))

    def test_what_is_due_is_done_in_the_order_of_the_addresses(self):
        world = World([])
        heard = Listener([])
        for address in (30, 4, 12):
            world.add_authority(address, Authority([Secondary((f"b{address}",), 8), Secondary((f"a{address}",), 8)]))
        world.add_authority(8, heard)
        world.run(2)
        names = [("b4",), ("a4",), ("b12",), ("a12",), ("b30",), ("a30",)]
        self.assertEqual(heard.heard, [(2, 0, (name, "AXFR")) for name in names])
        self.assertEqual(world.sent, 12)

    def test_authorities_and_resolvers_are_in_one_order(self):
        # At the time 3 a resolver asks a second server and a secondary its master; the first one's query is lost.
        for address, heard in [(3, (0, 1)), (9, (1, 0))]:
            world = World([2, 2, 0])
            master, server = Listener([]), Listener([])
            world.add_authority(100, master)
            world.add_authority(200, server)
            world.add_resolver(5, Resolver([150, 200], 50))
            secondary = Secondary(("z",), 100)
            secondary.next_time = 3
            world.add_authority(address, Authority([secondary]))
            world.ask(5, 99, ("s",), "A")
            world.run(4)
            self.assertEqual((len(master.heard), len(server.heard)), heard)

    def test_responses_are_in_the_order_of_the_deliveries(self):
        world, _ = small_world()
        for client, label in enumerate("dacb"):
            world.ask(1, client, (label,), "A")
        world.ask(1, 9, ("s",), "A")
        world.run(2)
        self.assertEqual([client for _, client, _ in world.replies], [0, 1, 2, 3, 9])
        self.assertEqual({time for time, _, _ in world.replies}, {2})

    def test_time(self):
        world, _ = small_world()
        world.run(0)
        self.assertEqual(world.now, 0)
        world.pass_second()
        self.assertEqual(world.now, 1)
        world.run(7)
        self.assertEqual(world.now, 8)

    def test_running_is_passing_seconds(self):
        one, _ = small_world([0, 3, 1, 2, 0])
        other, _ = small_world([0, 3, 1, 2, 0])
        for world in (one, other):
            for client, label in enumerate("sxsy"):
                world.ask(1, client, (label,), "A")
        one.run(20)
        for _ in range(20):
            other.pass_second()
        self.assertEqual((one.now, one.sent), (other.now, other.sent))
        self.assertEqual([(time, client, message.fields()) for time, client, message in one.replies],
                         [(time, client, message.fields()) for time, client, message in other.replies])


class ClientsTest(unittest.TestCase):
    def test_the_query_and_the_response(self):
        asked = []

        class Ear(Resolver):
            def ask(self, now, client, query):
                asked.append((now, client, query))
                return Resolver.ask(self, now, client, query)

        world = World([])
        world.add_authority(7, Authority([Primary(root_zone())]))
        world.add_resolver(1, Ear([7], 50))
        world.run(5)
        world.ask(1, 10 ** 6, ("s",), "A")
        self.assertEqual(asked, [(5, 10 ** 6, Message(0, (("s",), "A"), recursion=True))])
        world.run(2)
        self.assertEqual(world.replies, [(7, 10 ** 6, Message(0, (("s",), "A"), response=True, recursion=True,
                                                              answer=[(("s",), "A", 9, 7)]))])
        self.assertEqual([part.__class__ for part in (world.replies, world.replies[0])], [list, tuple])

    def test_a_response_from_the_cache_comes_at_once(self):
        world, authority = small_world()
        world.ask(1, 99, ("s",), "A")
        world.run(6)
        world.ask(1, 98, ("s",), "A")
        self.assertEqual(told(world)[1:], [(6, 98, 0, [(("s",), "A", 5, 7)])])
        world.ask(1, 97, ("s",), "TXT")
        world.run(3)
        world.ask(1, 96, ("s",), "TXT")
        self.assertEqual([(time, client, message.authority) for time, client, message in world.replies[2:]],
                         [(8, 97, [((), "SOA", 5, SETS[0][3][0])]), (9, 96, [((), "SOA", 4, SETS[0][3][0])])])
        self.assertEqual((len(authority.heard), world.sent), (2, 4))

    def test_several_resolvers(self):
        world, authority = small_world()
        world.add_resolver(2, Resolver([7], 50))
        world.ask(2, 50, ("s",), "A")
        world.run(2)
        world.ask(1, 51, ("s",), "A")
        world.ask(2, 52, ("s",), "A")
        world.run(2)
        self.assertEqual([(time, client) for time, client, _ in world.replies], [(2, 50), (2, 52), (4, 51)])
        self.assertEqual(len(authority.heard), 2)

    def test_delegations_are_followed(self):
        below = zone_of(("z",), [(("z",), "SOA", 9, SETS[0][3]), (("z",), "NS", 9, (("n", "z"),)),
                                 (("n", "z"), "A", 9, (20,)), (("t", "z"), "CNAME", 40, (("u",),))])
        above = root_zone((("z",), "NS", 30, (("n", "z"),)), (("n", "z"), "A", 30, (20,)), text("u"))
        world = World([])
        world.add_authority(7, Authority([Primary(above)]))
        world.add_authority(20, Authority([Primary(below)]))
        world.add_resolver(1, Resolver([7], 50))
        world.ask(1, 99, ("t", "z"), "TXT")
        world.run(9)
        self.assertEqual(told(world), [(6, 99, 0, [(("t", "z"), "CNAME", 38, ("u",)), (("u",), "TXT", 50, "t")])])


class EditTest(unittest.TestCase):
    def test_an_edit(self):
        world, authority = small_world()
        world.ask(1, 99, ("t",), "TXT")
        world.edit(7, (), [("put", text("t"))])
        world.run(2)
        self.assertEqual(told(world), [(2, 99, 0, [(("t",), "TXT", 50, "t")])])
        self.assertEqual(authority.holder_of(()).zone.serial(), 2)

    def test_an_edit_behind_the_delivery(self):
        world, _ = small_world()
        world.ask(1, 99, ("t",), "TXT")
        world.run(1)
        world.edit(7, (), [("put", text("t"))])
        world.run(1)
        self.assertEqual(told(world), [(2, 99, 3, [])])

    def test_an_edit_that_is_not_valid(self):
        world, authority = small_world()
        with self.assertRaises(InvalidZone) as context:
            world.edit(7, (), [("put", text("t")), ("drop", (), "NS")])
        self.assertEqual(context.exception.place, 4)
        self.assertEqual(authority.holder_of(()).zone, root_zone())
        world.run(2)
        self.assertEqual((world.now, world.sent), (2, 0))

    def test_the_zone_of_the_origin_is_edited(self):
        below = zone_of(("z",), [(("z",), *SETS[0][1:]), (("z",), "NS", 9, (("q",),))])
        world, authority = small_world(holders=[Primary(below), Primary(root_zone())])
        acts = [("put", (("t", "z"), "TXT", 1, ("x",)))]
        before = copy.deepcopy(acts)
        world.edit(7, ("z",), acts)
        self.assertEqual([holder.zone.serial() for holder in authority.holders], [2, 1])
        self.assertEqual(acts, before)


class TransferTest(unittest.TestCase):
    """Secondaries in a world: the zone has the refresh value 20, the retry value 9 and the expire value 50."""

    def setUp(self):
        self.zone = zone_of(("z",), [(("z",), "SOA", 90, ((("s", "z"), 7, 20, 9, 50, 5),)),
                                     (("z",), "NS", 80, (("s", "z"),)), (("s", "z"), "A", 70, (1,))])

    def make(self, fates=()):
        world = World(list(fates))
        self.master = Listener([Primary(self.zone)])
        self.secondary = Secondary(("z",), 50)
        world.add_authority(50, self.master)
        world.add_authority(60, Authority([Primary(root_zone()), self.secondary]))
        return world

    def queries(self):
        return [(now, number, kind) for now, number, (_, kind) in self.master.heard]

    def test_a_secondary_keeps_its_data_fresh(self):
        world = self.make()
        world.run(2)
        self.assertIsNone(self.secondary.zone)
        world.run(1)
        self.assertEqual(self.secondary.zone, self.zone)
        self.assertEqual((self.secondary.expires, self.secondary.next_time), (53, 23))
        world.run(47)
        self.assertEqual(self.queries(), [(2, 0, "AXFR"), (24, 1, "IXFR"), (46, 2, "IXFR")])
        self.assertEqual((self.secondary.expires, self.secondary.next_time), (97, 67))
        self.assertEqual(world.sent, 6)

    def test_an_edit_reaches_the_secondary(self):
        world = self.make()
        world.run(10)
        world.edit(50, ("z",), [("put", (("t", "z"), "TXT", 1, ("x",)))])
        world.edit(50, ("z",), [("drop", ("q", "z"), "A")])
        world.run(14)
        self.assertEqual(self.secondary.zone.serial(), 7)
        world.run(1)
        self.assertEqual(self.secondary.zone, self.master.holders[0].zone)
        self.assertEqual(self.secondary.zone.serial(), 9)

    def test_lost_messages(self):
        world = self.make([2, 0, 2])
        world.run(11)
        self.assertIsNone(self.secondary.zone)
        world.run(2)
        self.assertEqual(self.secondary.zone, self.zone)
        self.assertEqual(self.queries(), [(7, 1, "AXFR"), (12, 2, "AXFR")])

    def test_data_expire_and_come_back(self):
        world = self.make([0, 0] + [2] * 6)
        world.run(52)
        self.assertEqual(self.secondary.served(52), self.zone)
        world.run(1)
        self.assertIsNone(self.secondary.served(53))
        self.assertEqual(self.secondary.zone, self.zone)
        # The queries at 23, 32, 41, 50, 59 and 68 are lost, the one at 77 is not.
        world.run(26)
        self.assertEqual(self.secondary.served(79), self.zone)
        self.assertEqual(self.queries(), [(2, 0, "AXFR"), (78, 7, "IXFR")])

    def test_a_late_response(self):
        # The query of the time 1 and its response take 4 seconds each; that of the time 6, the last one then, is lost.
        world = self.make([1, 1, 2])
        world.run(30)
        self.assertEqual(self.queries()[:2], [(5, 0, "AXFR"), (12, 2, "AXFR")])
        self.assertEqual(self.secondary.zone, self.zone)
        self.assertEqual(self.secondary.expires, 63)

    def test_a_response_goes_to_the_secondary_of_its_question(self):
        world = World([])
        other = zone_of(("y",), [(("y",), *one[1:]) if one[0] == ("z",) else (("s", "y"), *one[1:])
                                 for one in self.zone.sets[:1]] + [(("y",), "NS", 80, (("q",),))])
        world.add_authority(50, Authority([Primary(self.zone), Primary(other)]))
        holders = [Secondary(("y",), 50), Secondary(("z",), 50), Secondary((), 50)]
        world.add_authority(60, Authority(holders))
        world.run(3)
        self.assertEqual([holder.zone for holder in holders], [other, self.zone, None])

    def test_secondaries_of_secondaries(self):
        world = self.make()
        third = Secondary(("z",), 60)
        world.add_authority(70, Authority([third]))
        world.run(8)
        self.assertEqual(third.zone, self.zone)
        self.assertEqual(self.secondary.zone, self.zone)

    def test_an_authority_that_is_its_own_master(self):
        world = World([])
        secondary = Secondary(("z",), 50)
        world.add_authority(50, Authority([secondary]))
        world.run(20)
        self.assertIsNone(secondary.zone)
        self.assertEqual(world.sent, 8)


class StrayMessagesTest(unittest.TestCase):
    def test_a_query_of_a_resolver_to_a_resolver(self):
        world = World([])
        world.add_resolver(1, Resolver([2, 7], 50))
        world.add_resolver(2, Resolver([7], 50))
        world.add_authority(7, Authority([Primary(root_zone())]))
        world.ask(1, 99, ("s",), "A")
        world.run(9)
        self.assertEqual((told(world), world.sent), ([(5, 99, 0, [(("s",), "A", 9, 7)])], 3))

    def test_a_query_of_a_resolver_to_itself(self):
        world = World([])
        world.add_resolver(1, Resolver([1], 50))
        world.ask(1, 99, ("s",), "A")
        world.run(9)
        self.assertEqual((told(world), world.sent), ([(3, 99, 2, [])], 1))

    def test_a_query_of_a_secondary_to_a_resolver(self):
        world = World([])
        world.add_authority(5, Authority([Secondary((), 1)]))
        world.add_resolver(1, Resolver([7], 50))
        world.run(5)
        self.assertEqual((world.sent, world.replies), (1, []))

    def test_a_response_to_an_authority_without_the_secondary(self):
        world = World([])
        authority = Listener([Primary(root_zone()), Secondary(("z",), 60)])
        world.add_authority(7, authority)
        for question in [((), "AXFR"), (("z",), "AXFR"), (("y",), "AXFR"), (("s",), "A")]:
            world.deliver(60, 7, write_message(Message(0, question, response=True)))
        self.assertEqual((authority.heard, world.sent), ([], 0))
