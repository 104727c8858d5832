"""Resolvers: hosts that find answers for clients and keep them in a cache."""

from zoneward.cache import ANSWER_RANK, REFERRAL_RANK, Cache
from zoneward.messages import NO_ERROR, NO_SUCH_NAME, NUMBERS
from zoneward.names import is_below, is_within
from zoneward.records import sets_of
from zoneward.tasks import Task

MAX_FOLLOWED = 9


class Resolver:
    """The tasks that wait for responses, in the order in which they began, and a cache of what was found."""

    def __init__(self, roots, limit):
        self.roots = list(roots)
        self.cache = Cache(limit)
        self.tasks = []
        self.number = 0

    def ask(self, now, client, query):
        """Take a query of a client; return the list of the actions."""
        task = Task(client, query)
        self.tasks.append(task)
        return self.go_on(now, [task])

    def receive(self, now, source, message):
        """Take a message from an address; return the list of the actions."""
        takers = [task for task in self.tasks if task.waits_for(now, source, message)][:1]
        for task in takers:
            self.learn(now, task, message)
        return self.go_on(now, takers)

    def due(self, now):
        """Let the tasks advance that have waited long enough; return the list of the actions."""
        return self.go_on(now, [task for task in self.tasks if task.has_waited(now)])

    def go_on(self, now, tasks):
        """Let some of the tasks advance; return the list of their actions."""
        actions = []
        for task in tasks:
            action = task.advance(now, self.cache, self.roots, self.number)
            if action[0] == "send":
                self.number = (self.number + 1) % NUMBERS
            actions.append(action)
        if any([task.is_finished for task in tasks]):
            self.tasks = [task for task in self.tasks if not task.is_finished]
        return actions

    def learn(self, now, task, message):
        """Put into the cache what a response to a task says."""
        if message.code not in (NO_ERROR, NO_SUCH_NAME):
            return
        authority = _sets_within(message.authority, task.zone)
        followed, last = _follow(_sets_within(message.answer, task.zone), task.name, task.kind)
        for record_set in followed:
            self.cache.put(now, record_set, ANSWER_RANK)
        soa = _negative_set_of(authority, last, task.zone)
        if soa is not None:
            self.cache.put_negative(now, last, None if message.code == NO_SUCH_NAME else task.kind, soa)
        elif followed == [] and message.code == NO_ERROR:
            self.learn_referral(now, _referral_of(authority, task.name, task.zone),
                                _sets_within(message.additional, task.zone))

    def learn_referral(self, now, referral, additional):
        """Put into the cache an NS set, if there is one, and the addresses of its servers."""
        if referral is None:
            return
        self.cache.put(now, referral, REFERRAL_RANK)
        for record_set in additional:
            if record_set[1] == "A" and record_set[0] in referral[3]:
                self.cache.put(now, record_set, REFERRAL_RANK)


def _sets_within(records, zone):
    """Return the sets of the records whose names are within a zone."""
    return sets_of([record for record in records if is_within(record[0], zone)])


def _follow(sets, name, kind):
    """Return the sets that lead from a name to a set of a kind, and the name that lacks one, or None."""
    sets_by_key = {(one[0], one[1]): one for one in sets}
    followed = []
    while len(followed) < MAX_FOLLOWED:
        record_set = sets_by_key.get((name, kind), sets_by_key.get((name, "CNAME")))
        if record_set is None:
            break
        followed.append(record_set)
        if record_set[1] == kind:
            return followed, None
        name = record_set[3][0]
    return followed, name


def _negative_set_of(authority, last, zone):
    """Return the first SOA set that a last name within a zone is within, or None; the last name may be None."""
    if last is None or not is_within(last, zone):
        return None
    return _first_of([one for one in authority if one[1] == "SOA" and is_within(last, one[0])])


def _referral_of(authority, name, zone):
    """Return the first NS set below a zone that a name is within, or None."""
    return _first_of([one for one in authority
                      if one[1] == "NS" and is_within(name, one[0]) and is_below(one[0], zone)])


def _first_of(sets):
    return sets[0] if sets != [] else None
