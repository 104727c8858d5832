"""Servers: primaries and secondaries, which hold zones, and the authorities that answer from them."""

from zoneward.changes import difference, edit_zone, is_later
from zoneward.messages import FAILURE, NO_ERROR, NO_SUCH_NAME, NUMBERS, REFUSED, Message
from zoneward.names import is_within
from zoneward.records import TRANSFER_KINDS, records_of
from zoneward.transfers import difference_records, full_copy, zone_after
from zoneward.zones import lookup

KEPT_CHANGES = 8
MAX_ALIASES = 8
# The retry interval as long as no SOA set tells it.
FIRST_RETRY = 5


class Primary:
    """A valid zone that is edited, and the differences of its last edits."""

    def __init__(self, zone):
        self.origin = zone.origin
        self.zone = zone
        self.changes = []

    def edit(self, acts):
        """Edit the zone. Raise InvalidZone if the result is not valid."""
        zone = edit_zone(self.zone, acts)
        self.changes = [*self.changes, difference(self.zone, zone)][-KEPT_CHANGES:]
        self.zone = zone

    def served(self, now):
        """Return the Zone that is served at a time, which is always the newest one."""
        return self.zone

    def changes_from(self, serial):
        """Return the differences from a serial to the newest one, or no differences if not all are kept."""
        serials = [old_soa[3][0][1] for old_soa, _, _, _ in self.changes]
        if serial not in serials:
            return []
        return self.changes[serials.index(serial):]


class Secondary:
    """A copy of the zone of a master, which is asked for a newer one again and again."""

    def __init__(self, origin, master):
        self.origin = origin
        self.master = master
        self.zone = None
        self.expires = 0
        self.next_time = 0
        self.number = 0
        # The number and the question of the last query, which are all that a response must have of it.
        self.asked = None

    def due(self, now):
        """Return the query that is sent at a time, or None."""
        if now < self.next_time:
            return None
        kind, retry, authority = "AXFR", FIRST_RETRY, []
        if self.zone is not None:
            kind, retry, authority = "IXFR", _soa_value(self.zone)[3], records_of([self.zone.soa()])
        query = Message(self.number, (self.origin, kind), authority=authority)
        self.asked = (query.number, query.question)
        self.number = (self.number + 1) % NUMBERS
        self.next_time = now + max(1, retry)
        return query

    def receive(self, now, source, message):
        """Take a message from an address, if it counts."""
        if (not message.response or message.code != NO_ERROR or source != self.master
                or (message.number, message.question) != self.asked):
            return
        zone = zone_after(self.origin, self.zone, message.answer)
        if zone is None or (len(message.answer) > 1 and not self.is_news(now, zone)):
            return
        _, _, refresh, _, expire, _ = _soa_value(zone)
        self.zone = zone
        self.next_time = now + max(1, refresh)
        self.expires = now + expire

    def served(self, now):
        """Return the Zone that is served at a time, or None."""
        return self.zone if now < self.expires else None

    def is_news(self, now, zone):
        """Return True if a zone is later than the data, or the data have expired."""
        return self.served(now) is None or is_later(zone.serial(), self.zone.serial())

    def changes_from(self, _):
        """Return no differences, as only a primary keeps them."""
        return []


class Authority:
    """A host that answers from the zones of primaries and secondaries."""

    def __init__(self, holders):
        self.holders = list(holders)

    def answer(self, now, query):
        """Return the response to a query."""
        name, kind = query.question
        zone = self.zone_for(now, name)
        if zone is None:
            is_held = any([is_within(name, holder.origin) for holder in self.holders])
            return _response_to(query, code=FAILURE if is_held else REFUSED)
        if kind not in TRANSFER_KINDS:
            return self.answer_lookups(now, query)
        if zone.origin != name:
            return _response_to(query, code=REFUSED)
        return _response_to(query, authoritative=True, answer=self.transfer(zone, query))

    def holder_of(self, origin):
        """Return the primary or secondary of an origin, or None."""
        for holder in self.holders:
            if holder.origin == origin:
                return holder
        return None

    def zone_for(self, now, name):
        """Return the served zone with the longest origin that contains a name, or None."""
        found = None
        for holder in self.holders:
            zone = holder.served(now)
            if zone is not None and is_within(name, zone.origin):
                if found is None or len(zone.origin) > len(found.origin):
                    found = zone
        return found

    def answer_lookups(self, now, query):
        """Return the response to a query for a name that a served zone contains."""
        name, kind = query.question
        results = self.lookups(now, name, kind)
        answer = [one for _, status, sets, _ in results if status != "delegation" for one in sets]
        zone, status, sets, glue = results[-1]
        authority = []
        if status == "delegation":
            authority = sets
        elif status in ("no data", "no name"):
            authority = [zone.negative_set()]
        return _response_to(query,
                            authoritative=results[0][1] != "delegation",
                            code=NO_SUCH_NAME if status == "no name" else NO_ERROR,
                            answer=records_of(answer), authority=records_of(authority), additional=records_of(glue))

    def lookups(self, now, name, kind):
        """Return the zones and the results of the lookups of a name and of the aliases behind it."""
        results = []
        names = []
        zone = self.zone_for(now, name)
        while zone is not None and name not in names and len(results) < MAX_ALIASES:
            names.append(name)
            status, sets, glue = lookup(zone, name, kind)
            results.append((zone, status, sets, glue))
            if status != "alias":
                break
            name = sets[0][3][0]
            zone = self.zone_for(now, name)
        return results

    def transfer(self, zone, query):
        """Return the records that answer a query for a transfer of a served zone."""
        name, kind = query.question
        first = query.authority[:1]
        if kind == "AXFR" or [(owner, asked) for owner, asked, _, _ in first] != [(name, "SOA")]:
            return full_copy(zone)
        serial = first[0][3][1]
        if serial == zone.serial():
            return records_of([zone.soa()])
        changes = self.holder_of(name).changes_from(serial)
        if changes == []:
            return full_copy(zone)
        return difference_records(zone, changes)


def _response_to(query, *, authoritative=False, code=NO_ERROR, answer=(), authority=(), additional=()):
    """Return a response with the number, the question and the recursion of a query."""
    return Message(query.number, query.question, response=True, authoritative=authoritative,
                   recursion=query.recursion, code=code, answer=answer, authority=authority, additional=additional)


def _soa_value(zone):
    """Return the value of the SOA set of a zone."""
    _, _, _, values = zone.soa()
    return values[0]
