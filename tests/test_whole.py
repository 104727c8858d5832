"""Tests of the whole program: points 47 and 48 in random worlds, and what the interface section begins with."""

import collections
import inspect
import random
import unittest
from importlib import import_module

from zoneward.errors import InvalidZone
from zoneward.names import is_within
from zoneward.records import sets_of
from zoneward.resolver import Resolver
from zoneward.servers import Authority, Primary, Secondary
from zoneward.world import World
from zoneward.zones import Zone, lookup, zone_of

ORIGINS = [(), ("z",), ("y",), ("b", "z"), ("c", "b", "z")]
PRIMARIES = {(): 10, ("z",): 11, ("y",): 12, ("b", "z"): 11, ("c", "b", "z"): 14}
SECONDARIES = {(): [12], ("z",): [13, 10], ("y",): [14], ("b", "z"): [12, 15], ("c", "b", "z"): [11]}
AUTHORITIES = [10, 11, 12, 13, 14, 15]
RESOLVERS = [1, 2, 20]
TTLS = [0, 1, 4, 15, 60, 200, 90000]
LONGEST_WAIT = 72


def children(origin):
    return [other for other in ORIGINS if other[1:] == origin and other != origin]


def servers_of(origin, count=9):
    """The names and the addresses of the servers of a zone, the primary first."""
    addresses = [PRIMARIES[origin], *SECONDARIES[origin]][:count]
    return [((f"n{at}", *origin), address) for at, address in enumerate(addresses)]


def some_name(source):
    labels = [source.choice("aabdew*") if at == 0 else source.choice("abw") for at in range(source.choice([0, 1, 1, 1, 2]))]
    return tuple(labels) + source.choice(ORIGINS)


def some_set(source, origin):
    """A set for a zone, which may make the zone wrong."""
    name = some_name(source)
    while not is_within(name, origin):
        name = some_name(source)
    kind = source.choice(["A", "A", "TXT", "MX", "CNAME", "CNAME"])
    value = {"A": source.randint(1, 9), "TXT": source.choice("abc"), "MX": (source.randint(1, 3), some_name(source)),
             "CNAME": tuple(label for label in some_name(source) if label != "*")}[kind]
    return name, kind, source.choice(TTLS), (value,)


def some_zone(source, origin):
    """A valid zone with its servers, the delegations to the zones below it, and further sets."""
    intervals = (source.randint(0, 25), source.randint(0, 9), source.choice([0, 5, 30, 90]), source.choice([0, 3, 20, 900]))
    servers = servers_of(origin)
    soa = (origin, "SOA", source.choice(TTLS), ((servers[0][0], source.choice([1, 2 ** 32 - 3]), *intervals),))
    sets = [soa, (origin, "NS", 60, tuple(sorted(name for name, _ in servers)))]
    sets += [(name, "A", 60, (address,)) for name, address in servers]
    for child in children(origin):
        below = servers_of(child)
        sets.append((child, "NS", source.choice([1, 10, 60]), tuple(sorted(name for name, _ in below))))
        sets += [(name, "A", source.choice([1, 10, 60]), (address,)) for name, address in below]
    zone = zone_of(origin, sets)
    for _ in range(10):
        try:
            zone = zone_of(origin, [*zone.sets, some_set(source, origin)])
        except InvalidZone:
            pass
    return zone


def some_acts(source, zone):
    """Acts on some sets of a zone, or on a delegation of it."""
    acts = []
    for _ in range(source.randint(0, 3)):
        known = source.choice([one for one in zone.sets if one[1] not in ("SOA", "NS")])
        new = some_set(source, zone.origin)
        acts.append(source.choice([("put", new), ("put", new), ("drop", *known[:2]), ("drop", *new[:2])]))
    for child in children(zone.origin):
        if source.random() < 0.2:
            below = servers_of(child, source.randint(1, 3))
            acts += [("put", (name, "A", 20, (address,))) for name, address in below]
            acts.append(("put", (child, "NS", 20, tuple(sorted(name for name, _ in below)))))
        elif source.random() < 0.05:
            acts.append(("drop", child, "NS"))
    return acts


class Story:
    """A world, what was asked and edited in it, and the versions of its zones with the times of their beginnings."""

    def __init__(self, seed):
        self.source = source = random.Random(seed)
        usual = source.choice([3, 10, 30])
        self.world = World(source.choices([0, 1, 2, 3], [usual, 1, 1, 1], k=source.choice([0, 500, 5000])))
        self.versions = {origin: [(0, some_zone(source, origin))] for origin in ORIGINS}
        holders = {address: [] for address in AUTHORITIES}
        for origin in ORIGINS:
            holders[PRIMARIES[origin]].append(Primary(self.versions[origin][0][1]))
            for address in SECONDARIES[origin]:
                holders[address].append(Secondary(origin, PRIMARIES[origin]))
        for address in AUTHORITIES:
            self.world.add_authority(address, Authority(holders[address]))
        for address in RESOLVERS:
            roots = source.choice([[10], [10, 12], [9, 12]])
            self.world.add_resolver(address, Resolver(roots, source.choice([1, 6, 25, 500, 500, 500])))
        self.secondaries = [one for held in holders.values() for one in held if isinstance(one, Secondary)]
        self.questions = []

    def pass_second(self):
        """Let some clients ask, perhaps edit a zone, and let a second pass."""
        source, world = self.source, self.world
        for _ in range(source.choice([0, 0, 1, 1, 2])):
            question = (some_name(source), source.choice(["A", "A", "TXT", "MX", "CNAME", "NS", "SOA"]))
            if self.questions and source.random() < 0.3:
                question = source.choice(self.questions)[1]
            self.questions.append((world.now, question))
            world.ask(source.choice(RESOLVERS), len(self.questions) - 1, *question)
        if source.random() < 0.15:
            self.edit(source.choice(ORIGINS))
        world.pass_second()

    def edit(self, origin):
        zone = self.versions[origin][-1][1]
        try:
            self.world.edit(PRIMARIES[origin], origin, some_acts(self.source, zone))
        except InvalidZone:
            return
        primary = self.world.authorities[PRIMARIES[origin]].holder_of(origin)
        self.versions[origin].append((self.world.now, primary.zone))

    def current(self, origin, first, last):
        """The versions of a zone that were the current one at some time from a first to a last one."""
        versions = self.versions[origin]
        ends = [begin for begin, _ in versions[1:]] + [self.world.now]
        return [zone for (begin, zone), end in zip(versions, ends) if begin <= last and end >= first]

    def is_right(self, now, left, asked_of):
        """Some version, current at its time, has the ttl that asked_of returns for it; this may be None."""
        for origin in ORIGINS:
            for zone in {id(zone): zone for _, zone in self.versions[origin]}.values():
                ttl = asked_of(zone)
                if ttl is not None and left <= min(max(1, ttl), 86400):
                    last = now - (min(max(1, ttl), 86400) - left)
                    expire = max(zone.soa()[3][0][4] for _, zone in self.versions[origin])
                    first = last - 8 - expire - (LONGEST_WAIT if left == 0 else 0)
                    if any(zone is other for other in self.current(origin, first, last)):
                        return True
        return False


class RandomWorldsTest(unittest.TestCase):
    def check_answer(self, story, now, message):
        for name, kind, left, values in sets_of(message.answer):
            def asked_of(zone):
                if not is_within(name, zone.origin):
                    return None
                status, sets, _ = lookup(zone, name, kind)
                fits = status in ("answer", "alias") and (sets[0][0], sets[0][1], sets[0][3]) == (name, kind, values)
                return sets[0][2] if fits else None

            self.assertTrue(story.is_right(now, left, asked_of), (now, message.fields()))

    def check_negative(self, story, now, message):
        [(owner, kind, left, value)] = message.authority
        self.assertEqual(kind, "SOA")
        aliases = [record for record in message.answer if record[1] == "CNAME"]
        self.assertEqual(aliases, message.answer)
        last = aliases[-1][3] if aliases else message.question[0]

        def asked_of(zone):
            if zone.origin != owner or zone.soa()[3] != (value,) or not is_within(last, owner):
                return None
            status = "no name" if message.code == 3 else "no data"
            return zone.negative_set()[2] if lookup(zone, last, message.question[1])[0] == status else None

        self.assertTrue(story.is_right(now, left, asked_of), (now, message.fields()))

    def check_form(self, message):
        """The response is one that a resolver may give."""
        self.assertIn(message.code, (0, 2, 3))
        self.assertEqual((message.number, message.response, message.recursion, message.authoritative),
                         (0, True, True, False))
        self.assertEqual(message.additional, [])
        name, kind = message.question
        for at, (owner, found, _, value) in enumerate(message.answer):
            self.assertEqual(owner, name)
            if found == "CNAME" and kind != "CNAME":
                name = value
        if message.code == 2:
            self.assertEqual((message.answer, message.authority), ([], []))
        elif not message.answer or message.answer[-1][1] != kind:
            self.assertEqual([record[1] for record in message.authority], ["SOA"])
        else:
            self.assertEqual((message.code, message.authority), (0, []))

    def test_random_worlds(self):
        seen = collections.Counter()
        for seed in range(40):
            story = Story(seed)
            for _ in range(150):
                story.pass_second()
            story.world.run(LONGEST_WAIT)
            replies = story.world.replies
            # Point 48: exactly one response to each query, at most 72 seconds later.
            self.assertEqual(sorted(client for _, client, _ in replies), list(range(len(story.questions))))
            for now, client, message in replies:
                with self.subTest(seed=seed, client=client):
                    asked, question = story.questions[client]
                    self.assertEqual(message.question, question)
                    self.assertTrue(asked <= now <= asked + LONGEST_WAIT)
                    self.check_form(message)
                    self.check_answer(story, now, message)
                    if message.authority:
                        self.check_negative(story, now, message)
                seen[message.code, len(message.answer) > 0, len(message.authority) > 0] += 1
                seen["ended"] += any(ttl == 0 for _, _, ttl, _ in message.answer)
                seen["at once"] += now == asked
                seen["late"] += now > asked + 12
            seen["versions"] += sum(len(versions) for versions in story.versions.values())
            seen["copied"] += sum(one.zone is not None for one in story.secondaries)
        for key in [(0, True, False), (0, False, True), (0, True, True), (2, False, False), (3, False, True),
                    (3, True, True), "ended", "at once", "late", "versions", "copied"]:
            self.assertGreater(seen[key], 30, seen)

    def test_the_same_world_twice(self):
        for seed in (100, 101):
            stories = [Story(seed), Story(seed)]
            for story in stories:
                for _ in range(60):
                    story.pass_second()
            one, other = [[(now, client, message.fields()) for now, client, message in story.world.replies]
                          for story in stories]
            self.assertEqual(one, other)
            self.assertEqual(stories[0].world.sent, stories[1].world.sent)


class BusyResolverTest(unittest.TestCase):
    def test_the_longest_wait(self):
        for roots in (23, 24, 25, 40):
            world = World([])
            world.add_resolver(1, Resolver(list(range(100, 100 + roots)), 5))
            world.run(5)
            world.ask(1, 99, ("a",), "A")
            world.run(100)
            self.assertEqual([(time, client, message.code) for time, client, message in world.replies],
                             [(5 + 3 * min(roots, 24), 99, 2)])
            self.assertEqual(world.sent, min(roots, 24))

    def test_an_alias_that_ended_while_its_task_waited_for_72_seconds(self):
        sets = [((), "SOA", 9, ((("s",), 1, 2, 3, 4, 5),)), ((), "NS", 900, (("s",),)), (("s",), "A", 900, (7,)),
                (("a",), "CNAME", 0, ("b",)), (("b",), "A", 50, (3,))]
        # The alias is learned at the time 2; then the server's responses are lost for 23 queries.
        world = World([0, 0] + [2] * 22 + [0, 0])
        resolver = Resolver(list(range(7, 40)), 99)
        world.add_authority(7, Authority([Primary(zone_of((), sets[:4]))]))
        world.add_authority(29, Authority([Primary(zone_of((), sets))]))
        world.add_resolver(1, resolver)
        world.ask(1, 99, ("a",), "A")
        world.run(80)
        [(time, _, message)] = world.replies
        self.assertLessEqual(time, 72)
        self.assertEqual((time, message.code, message.answer),
                         (70, 0, [(("a",), "CNAME", 0, ("b",)), (("b",), "A", 50, 3)]))


class InterfaceTest(unittest.TestCase):
    """Everything that the document lists stands in the file under which it is listed."""

    def test_all_names(self):
        listed = {"errors": "ZonewardError Truncated ReservedValue InvalidForm InvalidPointer InvalidName InvalidText "
                            "InvalidLine OutOfRange InvalidZone InvalidDifference",
                  "names": "name_size is_label is_within is_below format_name parse_name",
                  "records": "records_of sets_of kind_of", "messages": "Message write_message",
                  "reading": "read_name read_message", "zones": "Zone check_zone zone_of lookup",
                  "zonefile": "read_zone_file write_zone_file",
                  "changes": "is_later next_serial edit_zone difference apply_difference",
                  "transfers": "full_copy difference_records", "servers": "Primary Secondary Authority",
                  "cache": "Cache", "resolver": "Resolver", "world": "World"}
        for file, names in listed.items():
            module = import_module("zoneward." + file)
            for name in names.split():
                self.assertEqual(getattr(module, name).__module__, module.__name__)

    def test_the_attributes_are_set_at_once(self):
        zone = Zone((), [])
        for made, names in [(Primary(zone), "origin zone changes"), (Resolver([1], 1), "cache"),
                            (Secondary((), 1), "origin master zone expires next_time"), (Authority([]), "holders"),
                            (World([]), "now sent replies")]:
            self.assertLessEqual(set(names.split()), set(vars(made)))

    def test_the_methods_stand_in_the_class_itself(self):
        methods = {"servers.Primary": "edit served", "servers.Secondary": "due receive served",
                   "servers.Authority": "answer holder_of", "cache.Cache": "put put_negative find find_negative size",
                   "resolver.Resolver": "ask receive due",
                   "world.World": "add_authority add_resolver ask edit pass_second run"}
        for path, names in methods.items():
            file, name = path.split(".")
            found = getattr(import_module("zoneward." + file), name)
            for method in names.split():
                self.assertTrue(inspect.isfunction(vars(found)[method]), f"{path}.{method}")
