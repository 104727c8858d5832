"""Tests of zoneward.resolver: points 1 and 37 to 43."""

import copy
import inspect
import unittest

from zoneward import resolver as resolver_module
from zoneward.cache import Cache
from zoneward.messages import Message
from zoneward.resolver import Resolver

ROOT = 7
CLIENT = 99
NAME = ("a", "z")
QUESTION = (NAME, "A")


def address(name, ttl, *values):
    return (name, "A", ttl, values or (9,))


def alias(name, ttl, value):
    return (name, "CNAME", ttl, (value,))


def servers(name, ttl, *values):
    return (name, "NS", ttl, values)


def soa(name, ttl=30):
    return (name, "SOA", ttl, ((("s",), 1, 2, 3, 4, 5),))


def records(*sets):
    return [(name, kind, ttl, value) for name, kind, ttl, values in sets for value in values]


def query(question=QUESTION, number=5):
    return Message(number, question, recursion=True)


def send(target, number, question=QUESTION):
    return [("send", target, Message(number, question))]


def reply(code=0, answer=(), authority=(), question=QUESTION, number=5, client=CLIENT):
    return [("reply", client, Message(number, question, response=True, recursion=True, code=code, answer=answer,
                                      authority=authority))]


def fail(**more):
    return reply(2, **more)


def response(number=0, question=QUESTION, *, code=0, answer=(), authority=(), additional=(), aa=True):
    return Message(number, question, response=True, authoritative=aa, code=code, answer=answer, authority=authority,
                   additional=additional)


class ResolverCase(unittest.TestCase):
    def resolver(self, *sets, roots=(ROOT,), limit=100, rank=2):
        """A resolver that has got sets at the time 0."""
        made = Resolver(list(roots), limit)
        for one in sets:
            made.cache.put(0, one, rank)
        return made

    def below(self, *sets, name=("z",), at=(3,)):
        """A resolver that knows the servers of a zone."""
        made = self.resolver(*sets)
        made.cache.put(0, servers(name, 900, ("far",)), 1)
        made.cache.put(0, address(("far",), 900, *at), 1)
        return made

    def ask(self, resolver, now=0, question=QUESTION):
        return resolver.ask(now, CLIENT, query(question))

    def known(self, resolver, now, *keys, rank=1):
        """The sets that the cache of a resolver has for names and kinds."""
        return [resolver.cache.find(now, name, kind, rank) for name, kind in keys]


class InterfaceTest(unittest.TestCase):
    def test_the_methods_stand_in_the_class_itself(self):
        arguments = {"__init__": "(self, roots, limit)", "ask": "(self, now, client, query)",
                     "receive": "(self, now, source, message)", "due": "(self, now)"}
        self.assertEqual(Resolver.__module__, resolver_module.__name__)
        for name, signature in arguments.items():
            self.assertEqual(str(inspect.signature(vars(Resolver)[name])), signature)

    def test_the_cache(self):
        resolver = Resolver([1], 2)
        self.assertIs(resolver.cache.__class__, Cache)
        self.assertEqual(resolver.cache.size(), 0)
        for label in "abc":
            resolver.cache.put(0, address((label,), 5), 2)
        self.assertEqual(resolver.cache.size(), 2)

    def test_nothing_to_do(self):
        resolver = Resolver([1], 2)
        self.assertEqual(resolver.due(0), [])
        self.assertEqual(resolver.receive(0, 1, response()), [])


class CacheAnswersTest(ResolverCase):
    def test_a_set(self):
        resolver = self.resolver(address(NAME, 50, 1, 2))
        self.assertEqual(self.ask(resolver), reply(answer=records(address(NAME, 50, 1, 2))))
        self.assertEqual(self.ask(resolver, 49), reply(answer=records(address(NAME, 1, 1, 2))))
        self.assertEqual(self.ask(resolver, 50), send(ROOT, 0))

    def test_the_number_and_the_question_of_the_query(self):
        resolver = self.resolver((NAME, "TXT", 50, ("x",)))
        for number, client, recursion in [(0, 0, True), (65535, 10 ** 9, False)]:
            given = Message(number, (NAME, "TXT"), recursion=recursion)
            self.assertEqual(resolver.ask(0, client, given),
                             reply(answer=[(NAME, "TXT", 50, "x")], question=(NAME, "TXT"), number=number,
                                   client=client))

    def test_a_set_of_a_referral_is_no_answer(self):
        resolver = self.resolver(address(NAME, 50), rank=1)
        self.assertEqual(self.ask(resolver), send(ROOT, 0))

    def test_a_set_of_another_kind_or_name_is_no_answer(self):
        resolver = self.resolver((NAME, "TXT", 50, ("x",)), address(("a",), 50), address(("z",), 50))
        self.assertEqual(self.ask(resolver), send(ROOT, 0))

    def test_aliases(self):
        resolver = self.resolver(alias(NAME, 40, ("b",)), alias(("b",), 30, ("c", "y")), address(("c", "y"), 20, 1, 2))
        self.assertEqual(self.ask(resolver, 10), reply(answer=[
            (NAME, "CNAME", 30, ("b",)), (("b",), "CNAME", 20, ("c", "y")), (("c", "y"), "A", 10, 1),
            (("c", "y"), "A", 10, 2)]))

    def test_an_alias_of_a_referral_is_not_followed(self):
        resolver = self.resolver(alias(NAME, 40, ("b",)), rank=1)
        resolver.cache.put(0, address(("b",), 20), 2)
        self.assertEqual(self.ask(resolver), send(ROOT, 0))

    def test_an_alias_for_its_kind(self):
        resolver = self.resolver(alias(NAME, 40, ("b",)), alias(("b",), 30, ("c",)))
        self.assertEqual(self.ask(resolver, 0, (NAME, "CNAME")),
                         reply(answer=records(alias(NAME, 40, ("b",))), question=(NAME, "CNAME")))
        resolver = self.resolver(alias(NAME, 40, ("b",)), rank=1)
        self.assertEqual(self.ask(resolver, 0, (NAME, "CNAME")), send(ROOT, 0, (NAME, "CNAME")))

    def test_the_first_value_of_an_alias(self):
        resolver = self.resolver((NAME, "CNAME", 40, (("b",), ("c",))), address(("b",), 5), address(("c",), 5))
        self.assertEqual(self.ask(resolver), reply(answer=[
            (NAME, "CNAME", 40, ("b",)), (NAME, "CNAME", 40, ("c",)), (("b",), "A", 5, 9)]))

    def test_a_set_comes_before_an_alias_and_before_a_negative_entry(self):
        resolver = self.resolver(alias(NAME, 40, ("b",)), address(NAME, 50), address(("b",), 5))
        resolver.cache.put_negative(0, NAME, "A", soa(()))
        resolver.cache.put_negative(0, NAME, None, soa(()))
        self.assertEqual(self.ask(resolver), reply(answer=records(address(NAME, 50))))

    def test_an_alias_comes_before_a_negative_entry(self):
        resolver = self.resolver(alias(NAME, 40, ("b",)), address(("b",), 5))
        resolver.cache.put_negative(0, NAME, "A", soa(()))
        resolver.cache.put_negative(0, NAME, None, soa(()))
        self.assertEqual(self.ask(resolver), reply(answer=records(alias(NAME, 40, ("b",)), address(("b",), 5))))

    def test_negative_entries(self):
        for kind, code in [("A", 0), (None, 3)]:
            resolver = self.resolver()
            resolver.cache.put_negative(0, NAME, kind, soa(("z",), 30))
            self.assertEqual(self.ask(resolver, 10), reply(code, authority=records(soa(("z",), 20))))
            found = self.ask(resolver, 10, (NAME, "TXT"))
            if kind is None:
                self.assertEqual(found, reply(3, authority=records(soa(("z",), 20)), question=(NAME, "TXT")))
            else:
                self.assertEqual(found, send(ROOT, 0, (NAME, "TXT")))
            self.assertEqual(self.ask(resolver, 30)[0][0], "send")

    def test_a_negative_entry_behind_aliases(self):
        for kind, code in [("A", 0), (None, 3)]:
            resolver = self.resolver(alias(NAME, 40, ("b",)), alias(("b",), 30, ("c", "y")))
            resolver.cache.put_negative(0, ("c", "y"), kind, soa(("y",), 30))
            self.assertEqual(self.ask(resolver, 10),
                             reply(code, records(alias(NAME, 30, ("b",)), alias(("b",), 20, ("c", "y"))),
                                   records(soa(("y",), 20))))

    def test_chains(self):
        names = [("n" + str(at),) for at in range(12)]
        for length in (1, 7, 8, 9, 10):
            chain = [alias(names[at], 40, names[at + 1]) for at in range(length)]
            resolver = self.resolver(*chain, address(names[length], 50))
            found = self.ask(resolver, 0, (names[0], "A"))
            if length <= 8:
                self.assertEqual(found, reply(answer=records(*chain, address(names[length], 50)),
                                              question=(names[0], "A")))
            else:
                self.assertEqual(found, fail(question=(names[0], "A")))
            self.assertEqual(resolver.due(100), [])

    def test_a_chain_of_8_aliases_may_wait(self):
        names = [("n" + str(at),) for at in range(9)]
        resolver = self.resolver(*[alias(names[at], 40, names[at + 1]) for at in range(8)])
        self.assertEqual(self.ask(resolver, 0, (names[0], "A")), send(ROOT, 0, (names[8], "A")))

    def test_rings(self):
        names = [("a",), ("b",), ("c",)]
        for length in (1, 2, 3):
            ring = [alias(names[at], 40, names[(at + 1) % length]) for at in range(length)]
            for start in names[:length] + [("d",)]:
                resolver = self.resolver(*ring, alias(("d",), 40, ("a",)))
                self.assertEqual(self.ask(resolver, 0, (start, "A")), fail(question=(start, "A")))
                self.assertEqual(self.ask(resolver, 0, (start, "CNAME"))[0][2].code, 0)


    def test_a_name_that_was_current_before_fails_also_if_it_has_a_set_now(self):
        for chain, target in [([alias(NAME, 2, ("b",))], NAME), ([alias(NAME, 9, ("b",)), alias(("b",), 2, ("c",))], ("b",))]:
            last = chain[-1][3][0]
            resolver = self.resolver(*chain)
            self.assertEqual(self.ask(resolver), send(ROOT, 0, (last, "A")))
            resolver.cache.put(2, address(target, 50), 2)
            self.assertEqual(resolver.receive(3, ROOT, response(0, (last, "A"), answer=records(alias(last, 5, target)))),
                             fail())
            self.assertEqual(self.ask(resolver, 3, (target, "A")),
                             reply(answer=records(address(target, 49)), question=(target, "A")))


class ServersTest(ResolverCase):
    def check(self, resolver, targets, question=QUESTION):
        """The servers are asked one after another, each when 3 seconds have passed; then the task fails."""
        found = self.ask(resolver, 0, question)
        for number, target in enumerate(targets):
            self.assertEqual(found, send(target, number, question))
            self.assertEqual(resolver.due(3 * number + 2), [])
            found = resolver.due(3 * number + 3)
        self.assertEqual(found, fail(question=question))
        self.assertEqual(resolver.due(3 * len(targets) + 30), [])

    def test_the_roots(self):
        self.check(self.resolver(roots=[7]), [7])
        self.check(self.resolver(roots=[0, 4, 2 ** 32 - 1]), [0, 4, 2 ** 32 - 1])
        self.check(self.resolver(roots=[7]), [7], ((), "A"))

    def test_the_root_has_further_servers(self):
        for rank in (1, 2):
            resolver = self.resolver(servers((), 900, ("s",), ("t",)), address(("s",), 900, 3, 9),
                                     address(("t",), 900, 8), roots=[5, 8], rank=rank)
            self.check(resolver, [3, 5, 8, 9])

    def test_the_longest_zone(self):
        resolver = self.below()
        resolver.cache.put(0, servers(NAME, 900, ("other",)), 1)
        resolver.cache.put(0, address(("other",), 900, 4), 2)
        self.check(resolver, [4, 3, 7])

    def test_the_zone_of_a_name_around_it_alone(self):
        resolver = self.below()
        self.check(resolver, [7], (("a", "y"), "A"))
        self.check(self.below(name=("b", "z")), [7])
        self.check(self.below(name=("b", "a", "z")), [7])
        self.check(self.below(name=("a",)), [7])

    def test_sets_of_any_rank(self):
        for rank in (1, 2):
            for other in (1, 2):
                resolver = self.resolver()
                resolver.cache.put(0, servers(("z",), 900, ("far",)), rank)
                resolver.cache.put(0, address(("far",), 900, 3), other)
                self.check(resolver, [3, 7])

    def test_the_least_address_of_several_servers(self):
        resolver = self.resolver(servers(("z",), 900, ("far",), ("near",), ("none",)), address(("far",), 900, 6, 8),
                                 address(("near",), 900, 5, 7, 9), rank=1)
        self.check(resolver, [5, 6, 7, 8, 9, 7])

    def test_the_same_address_for_two_servers(self):
        resolver = self.resolver(servers(("z",), 900, ("far",), ("near",)), address(("far",), 900, 4),
                                 address(("near",), 900, 4))
        self.check(resolver, [4, 7])

    def test_zones_without_known_addresses(self):
        resolver = self.resolver(servers(("z",), 900, ("far",)))
        self.check(resolver, [7])
        resolver = self.resolver(address(("far",), 900, 4))
        self.check(resolver, [7])
        resolver = self.resolver(servers(("z",), 900, ("far",)), (("far",), "TXT", 900, ("x",)))
        self.check(resolver, [7])

    def test_further_root_servers_are_not_kept_with_the_roots(self):
        resolver = self.resolver(servers((), 8, ("s",)), address(("s",), 900, 3), roots=[5])
        self.check(resolver, [3, 5])
        self.assertEqual(self.ask(resolver, 10), send(5, 2))
        self.assertEqual(resolver.due(13), fail())

    def test_sets_that_have_ended(self):
        resolver = self.resolver(servers(("z",), 2, ("far",)), address(("far",), 900, 4, 5), rank=1)
        self.check(resolver, [4, 7])
        resolver = self.resolver(servers(("z",), 900, ("far",)), address(("far",), 4, 4, 5, 6), rank=1)
        self.check(resolver, [4, 5, 7])

    def test_the_same_address_for_two_zones(self):
        resolver = self.resolver(servers(("z",), 900, ("far",)), servers(NAME, 900, ("far",)), address(("far",), 900, 7),
                                 rank=1)
        self.check(resolver, [7, 7, 7])

    def test_a_server_is_asked_anew_for_another_name(self):
        resolver = self.resolver(roots=[7])
        self.assertEqual(self.ask(resolver), send(7, 0))
        found = resolver.receive(1, 7, response(answer=records(alias(NAME, 50, ("b",)))))
        self.assertEqual(found, send(7, 1, (("b",), "A")))
        self.assertEqual(resolver.due(4), fail())

    def test_a_server_that_becomes_known_while_a_task_waits(self):
        resolver = self.resolver(roots=[7])
        self.assertEqual(self.ask(resolver), send(7, 0))
        resolver.cache.put(1, servers(("z",), 900, ("far",)), 1)
        resolver.cache.put(1, address(("far",), 900, 8), 1)
        self.assertEqual(resolver.due(3), send(8, 1))
        resolver.cache.put(4, address(NAME, 50), 2)
        self.assertEqual(resolver.due(6), reply(answer=records(address(NAME, 48))))

    def test_24_queries(self):
        for many in (23, 24, 25, 40):
            resolver = self.resolver(roots=range(100, 100 + many))
            self.check(resolver, list(range(100, 100 + min(many, 24))))

    def test_24_queries_for_all_names_of_a_task(self):
        resolver = self.resolver(roots=range(100, 120))
        self.ask(resolver)
        for number in range(1, 20):
            self.assertEqual(resolver.due(3 * number), send(100 + number, number))
        now = 58
        found = resolver.receive(now, 119, response(19, answer=records(alias(NAME, 500, ("b",)))))
        for number in range(20, 24):
            self.assertEqual(found, send(80 + number, number, (("b",), "A")))
            now += 3
            found = resolver.due(now)
        self.assertEqual(found, fail())
        self.assertEqual(self.ask(resolver, now)[0][2].number, 24)

    def test_a_last_response_still_counts(self):
        resolver = self.resolver(roots=range(100, 140))
        self.ask(resolver)
        for number in range(1, 24):
            resolver.due(3 * number)
        self.assertEqual(resolver.receive(71, 123, response(23, answer=records(address(NAME, 50)))),
                         reply(answer=records(address(NAME, 50))))

    def test_the_argument_is_copied(self):
        roots = [7, 8]
        resolver = Resolver(roots, 5)
        roots.clear()
        self.check(resolver, [7, 8])


class NumbersTest(ResolverCase):
    def test_numbers_go_on_over_the_tasks(self):
        resolver = self.resolver(address(("b",), 500), roots=[7, 8])
        self.assertEqual(self.ask(resolver), send(7, 0))
        self.assertEqual(self.ask(resolver, 0, (("b",), "A"))[0][0], "reply")
        self.assertEqual(self.ask(resolver), send(7, 1))
        self.assertEqual(self.ask(resolver, 1, (("c",), "A")), send(7, 2, (("c",), "A")))
        self.assertEqual(resolver.due(3), send(8, 3) + send(8, 4))
        self.assertEqual(resolver.due(4), send(8, 5, (("c",), "A")))
        self.assertEqual(resolver.due(6), fail() + fail())
        self.assertEqual(self.ask(resolver, 6), send(7, 6))

    def test_numbers_behind_the_last_one_and_tasks_that_wait_for_the_same_response(self):
        resolver = self.resolver(roots=[7])
        for number in range(65536):
            self.assertEqual(resolver.ask(0, number, query())[0][2].number, number)
        self.assertEqual(resolver.ask(0, 65536, query()), send(7, 0))
        self.assertEqual(resolver.ask(0, 65537, query((("b",), "A"))), send(7, 1, (("b",), "A")))
        done = response(0, code=5)
        self.assertEqual(resolver.receive(1, 7, done), fail(client=0))
        self.assertEqual(resolver.receive(1, 7, response(1, (("b",), "A"), code=5)),
                         fail(client=65537, question=(("b",), "A")))
        self.assertEqual(resolver.receive(1, 7, done), fail(client=65536))
        self.assertEqual(resolver.receive(1, 7, done), [])
        self.assertEqual(resolver.receive(1, 7, response(1, code=5)), fail(client=1))
        self.assertEqual(resolver.due(3), [fail(client=client)[0] for client in range(2, 65536)])


class CountsTest(ResolverCase):
    def check(self, counts, now, source, message):
        resolver = self.resolver(roots=[7, 8])
        self.ask(resolver)
        fields = copy.deepcopy(message.fields())
        with self.subTest(now=now, source=source, message=fields):
            found = resolver.receive(now, source, message)
            self.assertEqual(message.fields(), fields)
            if counts:
                self.assertEqual(found, reply(answer=records(address(NAME, 50))))
                self.assertEqual((resolver.receive(now, source, message), resolver.due(3), resolver.due(9)), ([], [], []))
            else:
                self.assertEqual((found, resolver.cache.size()), ([], 0))
                self.assertEqual(resolver.due(now + 3), send(8, 1))

    def answer(self, **changed):
        fields = {"response": True, "number": 0, "question": QUESTION, "answer": records(address(NAME, 50))}
        fields.update(changed)
        return Message(fields.pop("number"), fields.pop("question"), **fields)

    def test_a_response_that_counts(self):
        for now in (0, 1, 2, 3):
            self.check(True, now, 7, self.answer())
        self.check(True, 1, 7, self.answer(authoritative=True))
        self.check(True, 1, 7, self.answer(recursion=True))

    def test_another_source(self):
        for source in (0, 6, 8):
            self.check(False, 1, source, self.answer())

    def test_another_number(self):
        for number in (1, 2, 65535):
            self.check(False, 1, 7, self.answer(number=number))

    def test_another_question(self):
        for question in [(NAME, "TXT"), (("b", "z"), "A"), (("z",), "A"), ((), "A"), (NAME, "AXFR")]:
            self.check(False, 1, 7, self.answer(question=question))

    def test_a_query(self):
        self.check(False, 1, 7, self.answer(response=False))

    def test_too_late(self):
        self.check(False, 4, 7, self.answer())
        self.check(False, 5, 7, self.answer())

    def test_the_third_second(self):
        message = self.answer()
        resolver = self.resolver(roots=[7, 8])
        self.assertEqual(self.ask(resolver, 10), send(7, 0))
        self.assertEqual(resolver.due(12), [])
        self.assertEqual(resolver.receive(13, 7, message), reply(answer=records(address(NAME, 50))))
        self.assertEqual(resolver.due(13), [])
        resolver = self.resolver(roots=[7, 8])
        self.ask(resolver, 10)
        self.assertEqual(resolver.due(13), send(8, 1))
        self.assertEqual(resolver.receive(13, 7, message), [])
        self.assertEqual(resolver.cache.size(), 0)
        self.assertEqual(resolver.due(15), [])
        self.assertEqual(resolver.receive(16, 8, self.answer(number=1)), reply(answer=records(address(NAME, 50))))

    def test_a_late_call_of_due(self):
        resolver = self.resolver(roots=[7, 8])
        self.ask(resolver, 10)
        self.assertEqual(resolver.due(50), send(8, 1))
        self.assertEqual(resolver.due(52), [])
        self.assertEqual(resolver.due(53), fail())

    def test_a_response_to_an_earlier_query(self):
        resolver = self.resolver(roots=[7])
        self.ask(resolver)
        self.assertEqual(resolver.receive(1, 7, response(answer=records(alias(NAME, 50, ("b",))))),
                         send(7, 1, (("b",), "A")))
        self.assertEqual(resolver.receive(2, 7, response(answer=records(address(NAME, 50)))), [])
        self.assertEqual(resolver.receive(2, 7, response(1, answer=records(address(("b",), 50)))), [])
        self.assertEqual(resolver.receive(2, 7, response(1, (("b",), "A"), answer=records(address(("b",), 50)))),
                         reply(answer=records(alias(NAME, 49, ("b",)), address(("b",), 50))))

    def test_several_tasks_that_wait(self):
        resolver = self.resolver(roots=[7])
        for client in (4, 5, 6):
            self.assertEqual(resolver.ask(0, client, query(number=client)), send(7, client - 4))
        self.assertEqual(resolver.receive(1, 7, self.answer(number=1)),
                         reply(answer=records(address(NAME, 50)), number=5, client=5))
        # The others go on waiting; the cache is asked when they advance.
        self.assertEqual(resolver.receive(1, 7, self.answer(number=1)), [])
        self.assertEqual(resolver.due(3), reply(answer=records(address(NAME, 48)), number=4, client=4)
                         + reply(answer=records(address(NAME, 48)), number=6, client=6))

    def test_the_order_in_which_tasks_began(self):
        resolver = self.resolver(roots=[7, 8])
        first, second, third = (("a",), "A"), (("b",), "A"), (("c",), "A")
        self.ask(resolver, 0, first)
        self.ask(resolver, 1, second)
        # The first task waits for a later query than the second one, but it began first.
        self.assertEqual(resolver.receive(1, 7, response(0, first, code=5)), send(8, 2, first))
        self.ask(resolver, 1, third)
        self.assertEqual(resolver.due(4), fail(question=first) + send(8, 4, second) + send(8, 5, third))
        self.assertEqual((resolver.due(5), resolver.due(6)), ([], []))
        self.assertEqual(resolver.due(7), fail(question=second) + fail(question=third))
        self.assertEqual(resolver.due(10), [])


class LearnTest(ResolverCase):
    """What is put into the cache for a response, and how the task goes on."""

    def check(self, resolver, message, found, size, *, target=ROOT, question=QUESTION):
        """The response to the first query leads to the actions; the cache then has so many entries."""
        before = resolver.cache.size()
        self.assertEqual(self.ask(resolver, 0, question), send(target, 0, question))
        self.assertEqual(resolver.receive(1, target, message), found)
        self.assertEqual(resolver.cache.size() - before, size)
        return resolver

    def test_an_answer(self):
        sets = address(NAME, 50, 1, 2)
        resolver = self.check(self.resolver(), response(answer=records(sets)), reply(answer=records(sets)), 1)
        self.assertEqual(self.known(resolver, 1, QUESTION, rank=2), [sets])

    def test_the_bounds_of_ttls(self):
        for ttl, kept in [(0, 1), (1, 1), (86400, 86400), (86401, 86400)]:
            self.check(self.resolver(), response(answer=[(NAME, "A", ttl, 1)]), reply(answer=[(NAME, "A", kept, 1)]), 1)

    def test_the_sets_of_the_answer_are_formed(self):
        given = [(NAME, "A", 9, 5), (NAME, "A", 7, 3), (NAME, "TXT", 4, "x"), (NAME, "A", 8, 5)]
        self.check(self.resolver(), response(answer=given), reply(answer=[(NAME, "A", 7, 3), (NAME, "A", 7, 5)]), 1)

    def test_an_answer_with_the_code_3(self):
        self.check(self.resolver(), response(code=3, answer=records(address(NAME, 5))),
                   reply(answer=records(address(NAME, 5))), 1)

    def test_other_codes(self):
        for code in (1, 2, 4, 5, 15):
            self.check(self.resolver(), response(code=code, answer=records(address(NAME, 5))), fail(), 0)
            self.check(self.resolver(), response(code=code, authority=records(soa(("z",)))), fail(), 0)
            self.check(self.resolver(), response(code=code, authority=records(servers(("z",), 5, ("s",))),
                                                 additional=records(address(("s",), 5))), fail(), 0)

    def test_the_server_counts_as_asked(self):
        for code in (0, 2, 3, 5):
            resolver = self.check(self.resolver(roots=[7, 8]), response(code=code), send(8, 1), 0)
            self.assertEqual(resolver.receive(2, 8, response(1, code=code)), fail())

    def test_answers_with_aliases(self):
        chain = [alias(NAME, 40, ("b",)), alias(("b",), 50, ("c", "y")), address(("c", "y"), 60, 1, 2)]
        for given in (chain, chain[::-1], [address(("d",), 4), *chain, (NAME, "TXT", 3, ("x",))]):
            resolver = self.check(self.resolver(), response(answer=records(*given)), reply(answer=records(*chain)), 3)
            self.assertEqual(self.known(resolver, 1, (NAME, "CNAME"), (("b",), "CNAME"), (("c", "y"), "A"), rank=2),
                             chain)

    def test_a_set_of_the_kind_comes_before_an_alias(self):
        given = [alias(NAME, 40, ("b",)), address(NAME, 50), address(("b",), 60)]
        resolver = self.check(self.resolver(), response(answer=records(*given)), reply(answer=records(given[1])), 1)
        self.assertEqual(self.known(resolver, 1, (NAME, "CNAME"), (("b",), "A")), [None, None])

    def test_an_alias_is_the_answer_for_its_kind(self):
        question = (NAME, "CNAME")
        given = [alias(NAME, 40, ("b",)), alias(("b",), 50, ("c",))]
        resolver = self.check(self.resolver(), response(0, question, answer=records(*given)),
                              reply(answer=records(given[0]), question=question), 1, question=question)
        self.assertEqual(self.known(resolver, 1, (("b",), "CNAME")), [None])

    def test_an_answer_that_ends_with_an_alias(self):
        resolver = self.check(self.resolver(), response(answer=records(alias(NAME, 40, ("b",)))),
                              send(ROOT, 1, (("b",), "A")), 1)
        self.assertEqual(resolver.receive(3, ROOT, response(1, (("b",), "A"), answer=[(("b",), "A", 9, 5)])),
                         reply(answer=[(NAME, "CNAME", 38, ("b",)), (("b",), "A", 9, 5)]))

    def test_the_first_value_of_an_alias(self):
        given = [(NAME, "CNAME", 9, ("c",)), (NAME, "CNAME", 9, ("b",)), (("b",), "A", 5, 1), (("c",), "A", 5, 2)]
        self.check(self.resolver(), response(answer=given),
                   reply(answer=[(NAME, "CNAME", 9, ("b",)), (NAME, "CNAME", 9, ("c",)), (("b",), "A", 5, 1)]), 2)

    def test_long_chains(self):
        names = [("n" + str(at),) for at in range(12)]
        question = (names[0], "A")
        for length in (1, 7, 8, 9, 10):
            chain = [alias(names[at], 40, names[at + 1]) for at in range(length)]
            sets = [*chain, address(names[length], 50)]
            found = reply(answer=records(*sets), question=question) if length <= 8 else fail(question=question)
            self.check(self.resolver(), response(0, question, answer=records(*sets)), found, min(length + 1, 9),
                       question=question)

    def test_rings(self):
        question = (("a",), "A")
        for ring in ([alias(("a",), 40, ("a",))], [alias(("a",), 40, ("b",)), alias(("b",), 40, ("a",))]):
            self.check(self.resolver(), response(0, question, answer=records(*ring)), fail(question=question),
                       len(ring), question=question)

    def test_the_order_of_the_puts_of_a_ring(self):
        # The sets are put 9 times in turn, so that of two with the same end the second one was put first.
        question = (("a",), "A")
        ring = [alias(("a",), 40, ("b",)), alias(("b",), 40, ("a",))]
        resolver = self.check(self.resolver(limit=2), response(0, question, answer=records(*ring)),
                              fail(question=question), 2, question=question)
        resolver.cache.put(1, address(("c",), 90), 1)
        self.assertEqual(self.known(resolver, 1, (("a",), "CNAME"), (("b",), "CNAME")), [ring[0], None])

    def test_nine_sets_end_the_following(self):
        # The negative set is for the value of the ninth alias, which is the name b.
        question = (("a",), "A")
        ring = [alias(("a",), 40, ("b",)), alias(("b",), 40, ("a",))]
        resolver = self.check(self.resolver(), response(0, question, answer=records(*ring), authority=records(soa(()))),
                              fail(question=question), 3, question=question)
        self.assertEqual(resolver.cache.find_negative(1, ("b",), "A"), (soa((), 30), False))
        self.assertIsNone(resolver.cache.find_negative(1, ("a",), "A"))

    def test_negative_answers(self):
        for code in (0, 3):
            for owner in [(), ("z",), NAME]:
                message = response(code=code, authority=records(soa(owner)))
                resolver = self.check(self.resolver(), message, reply(code, authority=records(soa(owner))), 1)
                self.assertEqual(resolver.cache.find_negative(1, NAME, "A"), (soa(owner), code == 3))
                self.assertEqual(resolver.cache.find_negative(1, NAME, "TXT"), (soa(owner), True) if code == 3 else None)
                self.assertIsNone(resolver.cache.find(1, owner, "SOA"))

    def test_the_ttls_of_negative_answers(self):
        for ttl, kept in [(0, 1), (1, 1), (86400, 86400), (86401, 86400)]:
            self.check(self.resolver(), response(code=3, authority=records(soa((), ttl))),
                       reply(3, authority=records(soa((), kept))), 1)

    def test_soa_sets_that_do_not_fit(self):
        for owner in [("a",), ("b", "z"), ("x", "a", "z"), ("y",)]:
            for code in (0, 3):
                self.check(self.resolver(), response(code=code, authority=records(soa(owner))), fail(), 0)

    def test_a_soa_set_elsewhere_does_not_count(self):
        self.check(self.resolver(), response(code=3, additional=records(soa(()))), fail(), 0)
        self.check(self.resolver(), response(code=3, answer=records(soa(()))), fail(), 0)

    def test_the_first_soa_set_that_fits(self):
        given = records(soa(("y",), 20), soa(("z",), 21), soa((), 22), soa(NAME, 23))
        self.check(self.resolver(), response(code=3, authority=given), reply(3, authority=records(soa(("z",), 21))), 1)

    def test_negative_answers_behind_aliases(self):
        chain = [alias(NAME, 40, ("b",)), alias(("b",), 50, ("c", "y"))]
        for code in (0, 3):
            message = response(code=code, answer=records(*chain), authority=records(soa(("z",)), soa(("y",), 20)))
            resolver = self.check(self.resolver(), message,
                                  reply(code, records(*chain), records(soa(("y",), 20))), 3)
            self.assertEqual(resolver.cache.find_negative(1, ("c", "y"), "A"), (soa(("y",), 20), code == 3))

    def test_a_negative_answer_beside_a_set_of_the_kind(self):
        message = response(answer=records(address(NAME, 5)), authority=records(soa(())))
        self.check(self.resolver(), message, reply(answer=records(address(NAME, 5))), 1)

    def test_referrals(self):
        sets = [servers(("z",), 50, ("s", "z"), ("t",)), address(("s", "z"), 40, 4, 5), address(("t",), 30, 3)]
        message = response(aa=False, authority=records(sets[0]), additional=records(*sets[1:]))
        resolver = self.check(self.resolver(), message, send(3, 1), 3)
        keys = [(("z",), "NS"), (("s", "z"), "A"), (("t",), "A")]
        self.assertEqual(self.known(resolver, 1, *keys), sets)
        self.assertEqual(self.known(resolver, 1, *keys, rank=2), [None] * 3)
        self.assertEqual(resolver.due(4), send(4, 2))
        self.assertEqual(resolver.receive(5, 4, response(2, answer=records(address(NAME, 9)))),
                         reply(answer=records(address(NAME, 9))))

    def test_a_referral_to_the_name_itself(self):
        message = response(authority=records(servers(NAME, 50, ("s",))), additional=records(address(("s",), 40, 4)))
        self.check(self.resolver(), message, send(4, 1), 2)

    def test_further_records_of_a_referral(self):
        message = response(authority=records(address(("z",), 9, 1), (NAME, "MX", 9, ((1, ("s", "z")),)),
                                             servers(("z",), 50, ("s", "z")), servers(NAME, 50, ("t",)),
                                             address(("t",), 9, 2)),
                           additional=records(address(("s", "z"), 40, 4), address(("t",), 30, 3), address(NAME, 30),
                                              (("s", "z"), "TXT", 30, ("x",)), servers(("s", "z"), 3, ("q",))))
        self.check(self.resolver(), message, send(4, 1), 2)

    def test_a_referral_without_addresses(self):
        resolver = self.check(self.resolver(), response(authority=records(servers(("z",), 50, ("s",)))), fail(), 1)
        self.assertEqual(self.known(resolver, 1, (("z",), "NS")), [servers(("z",), 50, ("s",))])

    def test_ns_sets_that_do_not_fit(self):
        more = records(address(("s",), 5))
        for owner in [(), ("a",), ("y",), ("b", "z"), ("x", "a", "z")]:
            self.check(self.resolver(), response(authority=records(servers(owner, 5, ("s",))), additional=more), fail(), 0)
        given = records(servers(("z",), 5, ("s",)))
        self.check(self.resolver(), response(additional=given + more), fail(), 0)
        self.check(self.resolver(), response(answer=given, additional=more), fail(), 0)

    def test_the_first_ns_set_that_fits(self):
        given = records(servers((), 50, ("q",)), servers(("y",), 50, ("q",)), servers(("z",), 50, ("s",)),
                        servers(NAME, 50, ("q",)))
        message = response(authority=given, additional=records(address(("q",), 40, 2), address(("s",), 40, 4)))
        resolver = self.check(self.resolver(), message, send(4, 1), 2)
        self.assertEqual(self.known(resolver, 1, (NAME, "NS"), ((), "NS"), (("q",), "A")), [None] * 3)

    def test_a_referral_is_below_the_zone_that_was_asked(self):
        more = records(address(("s", "z"), 5, 4))
        for owner, size in [(("z",), 0), (NAME, 2)]:
            message = response(authority=records(servers(owner, 50, ("s", "z"))), additional=more)
            found = send(4, 1) if size else send(ROOT, 1)
            self.check(self.below(), message, found, size, target=3)

    def test_no_referral_with_the_code_3_or_behind_an_alias(self):
        below = {"authority": records(servers(("z",), 5, ("s",))), "additional": records(address(("s",), 5))}
        self.check(self.resolver(), response(code=3, **below), fail(), 0)
        self.check(self.resolver(), response(answer=records(address(NAME, 5)), **below),
                   reply(answer=records(address(NAME, 5))), 1)
        self.check(self.resolver(), response(answer=records(alias(NAME, 5, ("b", "z"))), **below),
                   send(ROOT, 1, (("b", "z"), "A")), 1)

    def test_a_negative_answer_comes_before_a_referral(self):
        message = response(authority=records(servers(("z",), 5, ("s",)), soa(("z",))),
                           additional=records(address(("s",), 5)))
        self.check(self.resolver(), message, reply(authority=records(soa(("z",)))), 1)

    def test_a_soa_set_that_does_not_fit_leaves_the_referral(self):
        message = response(authority=records(soa(("y",)), servers(("z",), 5, ("s",))),
                           additional=records(address(("s",), 5, 4)))
        self.check(self.resolver(), message, send(4, 1), 2)

    def test_a_name_in_the_answer_without_a_set_that_fits(self):
        message = response(answer=records((NAME, "TXT", 5, ("x",))), authority=records(servers(("z",), 5, ("s",))),
                           additional=records(address(("s",), 5, 4)))
        self.check(self.resolver(), message, send(4, 1), 2)

    def test_a_referral_does_not_replace_an_answer(self):
        resolver = self.resolver(address(("s",), 500, 2), servers(("z",), 500, ("t",)))
        message = response(authority=records(servers(("z",), 50, ("s",))), additional=records(address(("s",), 40, 4)))
        self.check(resolver, message, fail(), 0)
        self.assertEqual(self.known(resolver, 1, (("z",), "NS"), (("s",), "A")),
                         [servers(("z",), 499, ("t",)), address(("s",), 499, 2)])


class WithinZoneTest(ResolverCase):
    """Only records within the zone that was asked are considered."""

    def check(self, message, found, size):
        resolver = self.below()
        self.assertEqual(self.ask(resolver), send(3, 0))
        self.assertEqual(resolver.receive(1, 3, message), found)
        self.assertEqual(resolver.cache.size() - 2, size)
        return resolver

    def test_answers(self):
        self.check(response(answer=records(address(NAME, 5), address(("q", "y"), 5))),
                   reply(answer=records(address(NAME, 5))), 1)

    def test_aliases_out_of_the_zone(self):
        given = [alias(NAME, 40, ("b", "z")), alias(("b", "z"), 50, ("c", "y")), address(("c", "y"), 60)]
        resolver = self.check(response(answer=records(*given)), send(ROOT, 1, (("c", "y"), "A")), 2)
        self.assertEqual(resolver.receive(2, ROOT, response(1, (("c", "y"), "A"), answer=records(given[2]))),
                         reply(answer=records(alias(NAME, 39, ("b", "z")), alias(("b", "z"), 49, ("c", "y")), given[2])))

    def test_a_negative_answer_for_a_name_outside_of_the_zone(self):
        for code in (0, 3):
            resolver = self.check(response(code=code, answer=records(alias(NAME, 40, ("c", "y"))),
                                           authority=records(soa(("y",)), soa(()))), send(ROOT, 1, (("c", "y"), "A")), 1)
            self.assertIsNone(resolver.cache.find_negative(1, ("c", "y"), "A"))

    def test_soa_sets_outside_of_the_zone(self):
        self.check(response(code=3, authority=records(soa(()))), send(ROOT, 1), 0)
        self.check(response(code=3, authority=records(soa(()), soa(("z",), 20))),
                   reply(3, authority=records(soa(("z",), 20))), 1)
        self.check(response(code=3, authority=records(soa(NAME, 20))), reply(3, authority=records(soa(NAME, 20))), 1)

    def test_the_last_name_is_within_the_zone(self):
        # The alias leads out of the zone and back; the set outside is not considered.
        given = [alias(NAME, 40, ("c", "y")), alias(("c", "y"), 40, ("d", "z"))]
        self.check(response(code=3, answer=records(*given), authority=records(soa(("z",)))),
                   send(ROOT, 1, (("c", "y"), "A")), 1)

    def test_ns_sets_outside_of_the_zone(self):
        more = records(address(("s", "z"), 5, 4))
        self.check(response(authority=records(servers((), 5, ("s", "z"))), additional=more), send(ROOT, 1), 0)
        self.check(response(authority=records(servers(("y",), 5, ("s", "z")), servers(NAME, 5, ("s", "z"))),
                            additional=more), send(4, 1), 2)

    def test_addresses_outside_of_the_zone(self):
        message = response(authority=records(servers(NAME, 5, ("s", "z"), ("t", "y"))),
                           additional=records(address(("t", "y"), 5, 2), address(("s", "z"), 5, 4)))
        resolver = self.check(message, send(4, 1), 2)
        self.assertEqual(self.known(resolver, 1, (("t", "y"), "A")), [None])

    def test_the_zone_is_the_one_that_was_asked(self):
        # The zone is taken as it was when the query was sent, although a longer one has become known.
        resolver = self.below()
        self.ask(resolver)
        resolver.cache.put(0, servers(NAME, 900, ("far",)), 1)
        self.assertEqual(resolver.receive(1, 3, response(code=3, authority=records(soa(("z",))))),
                         reply(3, authority=records(soa(("z",)))))


class TtlTest(ResolverCase):
    """The ttls of aliases in responses: what is left up to the time at which they end."""

    def test_aliases_that_end_while_the_task_waits(self):
        for later, left in [(1, 4), (4, 1), (5, 0), (6, 0)]:
            resolver = self.resolver(alias(NAME, 6, ("b",)), roots=[7, 8, 9])
            self.assertEqual(self.ask(resolver, 1), send(7, 0, (("b",), "A")))
            number = 0
            for now in range(2, 1 + later):
                if resolver.due(now):
                    number += 1
            message = response(number, (("b",), "A"), answer=records(address(("b",), 50)))
            self.assertEqual(resolver.receive(1 + later, 7 + number, message),
                             reply(answer=records(alias(NAME, left, ("b",)), address(("b",), 50))))

    def test_an_alias_that_ended_is_not_asked_for_again(self):
        resolver = self.resolver(alias(NAME, 2, ("b",)), roots=[7, 8])
        self.ask(resolver)
        self.assertEqual(resolver.due(3), send(8, 1, (("b",), "A")))
        self.assertEqual(resolver.receive(6, 8, response(1, (("b",), "A"), code=3, authority=records(soa(())))),
                         reply(3, [(NAME, "CNAME", 0, ("b",))], records(soa(()))))

    def test_ttls_that_were_bounded(self):
        resolver = self.resolver(alias(NAME, 0, ("b",)), alias(("b",), 90000, ("c",)), roots=[7, 8])
        self.assertEqual(self.ask(resolver), send(7, 0, (("c",), "A")))
        self.assertEqual(resolver.receive(2, 7, response(0, (("c",), "A"), answer=[(("c",), "A", 0, 5)])),
                         reply(answer=[(NAME, "CNAME", 0, ("b",)), (("b",), "CNAME", 86398, ("c",)),
                                       (("c",), "A", 1, 5)]))

    def test_a_task_that_fails_has_empty_lists(self):
        resolver = self.resolver(alias(NAME, 6, ("b",)))
        self.ask(resolver)
        self.assertEqual(resolver.due(3), fail())

    def test_each_step_asks_the_cache_at_its_time(self):
        resolver = self.resolver(address(NAME, 4), servers(("z",), 4, ("far",)), address(("far",), 4, 3), rank=1)
        self.assertEqual(self.ask(resolver, 3), send(3, 0))
        self.assertEqual(resolver.due(6), send(ROOT, 1))
        resolver.cache.put(7, address(NAME, 2), 2)
        self.assertEqual(resolver.due(9), fail())


class SmallCacheTest(ResolverCase):
    def test_an_answer_that_the_cache_does_not_keep(self):
        # The new entry itself is removed, as it ends first, so the task goes on as if there were no answer.
        resolver = self.resolver(address(("q",), 500), roots=[7, 8], limit=1)
        self.assertEqual(self.ask(resolver), send(7, 0))
        self.assertEqual(resolver.receive(1, 7, response(answer=records(address(NAME, 5)))), send(8, 1))
        self.assertEqual(resolver.receive(2, 8, response(1, answer=records(address(NAME, 600)))),
                         reply(answer=records(address(NAME, 600))))


class ArgumentsTest(ResolverCase):
    def test_the_arguments_do_not_change(self):
        given = query()
        message = response(answer=records(alias(NAME, 5, ("b",)), address(("b",), 5)), authority=records(soa(())),
                           additional=records(address(NAME, 3)))
        before = copy.deepcopy((given.fields(), message.fields()))
        resolver = self.resolver()
        resolver.ask(0, CLIENT, given)
        resolver.receive(1, ROOT, message)
        self.assertEqual((given.fields(), message.fields()), before)

    def test_a_query_that_changes_later(self):
        given = query()
        resolver = self.resolver()
        resolver.ask(0, CLIENT, given)
        given.number, given.question = 9, (("q",), "TXT")
        self.assertEqual(resolver.due(3), fail())

    def test_resolvers_share_nothing(self):
        one, other = Resolver([7], 5), Resolver([7], 5)
        self.ask(one)
        one.cache.put(0, address(NAME, 5), 2)
        self.assertEqual((other.due(3), other.cache.size(), self.ask(other, 3)), ([], 0, send(7, 0)))
