"""Changes of zones: serials, edits, and the differences of two versions."""

from zoneward.errors import InvalidDifference
from zoneward.zones import Zone, zone_of

SERIALS = 4294967296
HALF_OF_SERIALS = 2147483648


def is_later(serial, other):
    """Return True if a serial is later than another one, otherwise False."""
    return 0 < (serial - other) % SERIALS < HALF_OF_SERIALS


def next_serial(serial):
    """Return the next serial."""
    return (serial + 1) % SERIALS


def edit_zone(zone, acts):
    """Return the valid Zone after a list of acts, with the next serial."""
    sets = zone.sets
    for act in acts:
        if act[0] == "put":
            sets = _with_set(sets, act[1])
        else:
            sets = _without_set(sets, act[1], act[2])
    return zone_of(zone.origin, [_with_next_serial(one) if one[1] == "SOA" else one for one in sets])


def difference(old, new):
    """Return the difference of two valid versions of a zone."""
    before = set(old.sets)
    after = set(new.sets)
    removed = [one for one in old.sets if one[1] != "SOA" and one not in after]
    added = [one for one in new.sets if one[1] != "SOA" and one not in before]
    return old.soa(), removed, new.soa(), added


def apply_difference(zone, change):
    """Return the Zone after a difference, which must apply to the zone."""
    old_soa, removed, new_soa, added = change
    present = set(zone.sets)
    gone = set(removed)
    remaining = [one for one in zone.sets if one not in gone]
    keys = {(name, kind) for name, kind, _, _ in remaining}
    if (zone.soa() != old_soa or not all([one in present for one in removed])
            or any([(name, kind) in keys for name, kind, _, _ in added])):
        raise InvalidDifference(0)
    return Zone(zone.origin, [new_soa if one == old_soa else one for one in remaining] + list(added))


def _with_set(sets, record_set):
    """Return sets with a set in the place of the one of its name and kind, or at the end."""
    keys = [(name, kind) for name, kind, _, _ in sets]
    key = (record_set[0], record_set[1])
    if key not in keys:
        return sets + [record_set]
    at = keys.index(key)
    return sets[:at] + [record_set] + sets[at + 1:]


def _without_set(sets, name, kind):
    """Return sets without the one of a name and a kind."""
    return [one for one in sets if one[0] != name or one[1] != kind]


def _with_next_serial(soa):
    """Return an SOA set with the next serial."""
    name, kind, ttl, values = soa
    primary, serial, *intervals = values[0]
    return name, kind, ttl, ((primary, next_serial(serial), *intervals), *values[1:])
