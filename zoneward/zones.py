"""Zones: the record sets at and below an origin, when they are valid, and lookups in them."""

from zoneward.errors import InvalidZone
from zoneward.names import WILDCARD, is_within


class Zone:
    """An origin and a list of record sets, which need not be a valid zone."""

    def __init__(self, origin, sets):
        self.origin = origin
        self.sets = list(sets)

    def __eq__(self, other):
        return (isinstance(other, Zone) and self.origin == other.origin
                and sorted(self.sets) == sorted(other.sets))

    def find_set(self, name, kind):
        """Return the set of a name and a kind, or None."""
        for record_set in self.sets:
            if record_set[0] == name and record_set[1] == kind:
                return record_set
        return None

    def soa(self):
        """Return the SOA set."""
        return self.find_set(self.origin, "SOA")

    def serial(self):
        """Return the serial of the SOA set."""
        _, _, _, values = self.soa()
        return values[0][1]

    def negative_set(self):
        """Return the SOA set with the ttl that it has in negative answers."""
        name, kind, ttl, values = self.soa()
        return name, kind, min(ttl, values[0][5]), values

    def exists(self, name):
        """Return True if a name is within the origin and an owner is within the name, otherwise False."""
        return is_within(name, self.origin) and any([is_within(owner, name) for owner, _, _, _ in self.sets])


def zone_of(origin, sets):
    """Return the Zone of an origin and a list of sets, if it is valid."""
    zone = Zone(origin, sets)
    check_zone(zone)
    return zone


def lookup(zone, name, kind):
    """Return the status, the sets and the glue for a name within the origin and a kind."""
    delegation = _delegation_of(zone, name)
    if delegation is not None:
        return "delegation", [delegation], _glue_of(zone, delegation)
    if zone.exists(name):
        status, sets = _sets_at(zone, name, kind)
        return status, sets, []
    wildcard = _wildcard_of(zone, name)
    if wildcard is not None:
        status, sets = _sets_at(zone, wildcard, kind)
        return status, [(name,) + record_set[1:] for record_set in sets], []
    return "no name", [], []


def _delegation_of(zone, name):
    """Return the NS set of the cut with the fewest labels that a name is within, or None."""
    for first in reversed(range(len(name) - len(zone.origin))):
        servers = zone.find_set(name[first:], "NS")
        if servers is not None:
            return servers
    return None


def _glue_of(zone, delegation):
    """Return the A sets of the servers of an NS set that are within the origin."""
    _, _, _, servers = delegation
    found = [zone.find_set(server, "A") for server in servers if is_within(server, zone.origin)]
    return [glue for glue in found if glue is not None]


def _sets_at(zone, name, kind):
    """Return the status and the sets of an existing name for a kind."""
    found = zone.find_set(name, kind)
    if found is not None:
        return "answer", [found]
    alias = zone.find_set(name, "CNAME")
    if alias is not None:
        return "alias", [alias]
    return "no data", []


def _wildcard_of(zone, name):
    """Return the owner that is the wildcard below the closest encloser of a name, or None."""
    owners = [owner for owner, _, _, _ in zone.sets]
    for first in range(1, len(name) + 1):
        encloser = name[first:]
        if zone.exists(encloser):
            wildcard = (WILDCARD, *encloser)
            return wildcard if wildcard in owners else None
    return None


def _kinds_by_owner(zone):
    """Return the list of the kinds of the sets of each owner."""
    kinds = {}
    for owner, kind, _, _ in zone.sets:
        kinds.setdefault(owner, []).append(kind)
    return kinds


def _sets_are_within_and_different(zone):
    keys = [(owner, kind) for owner, kind, _, _ in zone.sets]
    return all([is_within(owner, zone.origin) for owner, _ in keys]) and len(set(keys)) == len(keys)


def _wildcards_are_first(zone):
    return WILDCARD not in zone.origin and all([WILDCARD not in owner[1:] for owner, _, _, _ in zone.sets])


def _soa_is_one(zone):
    found = [(owner, len(values)) for owner, kind, _, values in zone.sets if kind == "SOA"]
    return found == [(zone.origin, 1)]


def _origin_has_servers(zone):
    return zone.find_set(zone.origin, "NS") is not None


def _aliases_are_alone(zone):
    kinds = _kinds_by_owner(zone)
    return all([kinds[owner] == ["CNAME"] and len(values) == 1
                for owner, kind, _, values in zone.sets if kind == "CNAME"])


def _wildcards_have_no_servers(zone):
    return all([owner[:1] != (WILDCARD,) for owner, kind, _, _ in zone.sets if kind == "NS"])


def _cuts_have_addresses_only(zone):
    cuts = {owner for owner, kind, _, _ in zone.sets if kind == "NS" and owner != zone.origin}
    for owner, kind, _, _ in zone.sets:
        around = [owner[first:] for first in range(len(owner)) if owner[first:] in cuts]
        # An NS set has at least its own name around it, so that further cuts make it wrong.
        if around != [] and kind != "A" and (kind != "NS" or around != [owner]):
            return False
    return True


def _servers_have_addresses(zone):
    kinds = _kinds_by_owner(zone)
    servers = [server for _, kind, _, values in zone.sets if kind == "NS" for server in values]
    return all(["A" in kinds.get(server, []) for server in servers if is_within(server, zone.origin)])


RULES = (_sets_are_within_and_different, _wildcards_are_first, _soa_is_one, _origin_has_servers,
         _aliases_are_alone, _wildcards_have_no_servers, _cuts_have_addresses_only, _servers_have_addresses)


def check_zone(zone):
    """Raise InvalidZone with the number of the first rule that does not hold for a zone."""
    for number, rule in enumerate(RULES, start=1):
        if not rule(zone):
            raise InvalidZone(number)
