"""The task that a resolver makes for a query of a client."""

from zoneward.cache import ANSWER_RANK
from zoneward.messages import FAILURE, NO_ERROR, NO_SUCH_NAME, Message
from zoneward.records import records_of

MAX_ALIASES = 8
MAX_QUERIES = 24
# How many seconds a task waits for a response.
PATIENCE = 3


class Task:
    """What has been found for a query, and the response that is waited for."""

    def __init__(self, client, query):
        self.client = client
        self.query_number = query.number
        self.question = query.question
        self.name, self.kind = query.question
        # All names that were current, the current one included.
        self.names = [self.name]
        # The alias sets, each with the time at which it ends.
        self.aliases = []
        # The current name, the zone and the address of each query that was sent.
        self.asked = {}
        self.sent = 0
        self.address = None
        self.zone = None
        self.number = None
        self.since = None
        self.is_finished = False

    def advance(self, now, cache, roots, number):
        """Go on until a query is sent, with the given number, or the response to the client; return this action."""
        while True:
            found = cache.find(now, self.name, self.kind, ANSWER_RANK)
            if found is not None:
                return self.reply(NO_ERROR, self.alias_records(now) + records_of([found]), [])
            # If the kind is CNAME, there is none, as it would have been found just before.
            alias = cache.find(now, self.name, "CNAME", ANSWER_RANK)
            if alias is None:
                break
            if not self.follow(now, alias):
                return self.fail()
        negative = cache.find_negative(now, self.name, self.kind)
        if negative is not None:
            soa, is_missing = negative
            return self.reply(NO_SUCH_NAME if is_missing else NO_ERROR, self.alias_records(now), records_of([soa]))
        return self.send_query(now, cache, roots, number)

    def waits_for(self, now, source, message):
        """Return True if a message from an address is the response that is waited for."""
        return (message.response and source == self.address and message.number == self.number
                and message.question == (self.name, self.kind) and now <= self.since + PATIENCE)

    def has_waited(self, now):
        """Return True if the response has not come in time."""
        return now >= self.since + PATIENCE

    def follow(self, now, alias):
        """Go on with the value of an alias set; return False if the task fails thereby."""
        name, kind, ttl, values = alias
        self.aliases.append((name, kind, now + ttl, values))
        self.name = values[0]
        is_new = self.name not in self.names
        self.names.append(self.name)
        return is_new and len(self.aliases) <= MAX_ALIASES

    def alias_records(self, now):
        """Return the records of the alias sets with the seconds that are left; a set may have ended."""
        return records_of([(name, kind, max(0, ends - now), values) for name, kind, ends, values in self.aliases])

    def send_query(self, now, cache, roots, number):
        """Send a query to the next server, if there is one and the task may still ask."""
        zone, address = self.next_server(now, cache, roots)
        if address is None or self.sent >= MAX_QUERIES:
            return self.fail()
        self.asked[self.name, zone, address] = True
        self.sent += 1
        self.zone = zone
        self.address = address
        self.number = number
        self.since = now
        return "send", address, Message(number, (self.name, self.kind))

    def next_server(self, now, cache, roots):
        """Return the zone and the address that are asked next, or twice None."""
        for first in range(len(self.name) + 1):
            zone = self.name[first:]
            addresses = [address for address in addresses_of(now, cache, roots, zone)
                         if (self.name, zone, address) not in self.asked]
            if addresses != []:
                return zone, min(addresses)
        return None, None

    def fail(self):
        """Finish the task without a result; return the response to the client as an action."""
        return self.reply(FAILURE, [], [])

    def reply(self, code, answer, authority):
        """Finish the task; return the response to the client as an action."""
        self.is_finished = True
        return "reply", self.client, Message(self.query_number, self.question, response=True, recursion=True,
                                             code=code, answer=answer, authority=authority)


def addresses_of(now, cache, roots, zone):
    """Return the addresses at which the servers of a zone are known."""
    addresses = list(roots) if zone == () else []
    servers = cache.find(now, zone, "NS")
    if servers is not None:
        found = [cache.find(now, server, "A") for server in servers[3]]
        addresses.extend([address for one in found if one is not None for address in one[3]])
    return addresses
