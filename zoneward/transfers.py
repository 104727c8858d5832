"""Transfers: the records that a zone is copied by, and the zone that such records lead to."""

from zoneward.changes import apply_difference
from zoneward.errors import InvalidDifference, InvalidZone
from zoneward.records import records_of, sets_of
from zoneward.zones import check_zone, zone_of


def full_copy(zone):
    """Return the records of a full copy of a valid zone."""
    soa = records_of([zone.soa()])
    return soa + records_of([one for one in zone.sets if one[1] != "SOA"]) + soa


def difference_records(zone, changes):
    """Return the records of a list of differences that lead to a zone."""
    newest = records_of([zone.soa()])
    steps = []
    for old_soa, removed, new_soa, added in changes:
        steps.extend(records_of([old_soa, *removed, new_soa, *added]))
    return newest + steps + newest


def zone_after(origin, zone, records):
    """Return the Zone that transferred records lead to from a Zone or None; None if they have no form of a transfer."""
    if records == [] or not _begins_and_ends_alike(origin, records):
        return None
    if len(records) == 1:
        return _zone_if_current(zone, records[0])
    if records[1][1] == "SOA":
        return _zone_after_differences(zone, records)
    return _zone_of_copy(origin, records)


def _begins_and_ends_alike(origin, records):
    """Return True if the first record is a SOA record and the last one, and all SOA records are of an origin."""
    owners = [name for name, kind, _, _ in records if kind == "SOA"]
    return records[0][1] == "SOA" and records[0] == records[-1] and all([name == origin for name in owners])


def _zone_if_current(zone, record):
    """Return a Zone if it has the serial of a SOA record, otherwise None."""
    _, _, _, value = record
    if zone is None or zone.serial() != value[1]:
        return None
    return zone


def _zone_of_copy(origin, records):
    """Return the Zone of a full copy, or None if it is none."""
    others = records[1:-1]
    if "SOA" in [kind for _, kind, _, _ in others]:
        return None
    try:
        return zone_of(origin, sets_of(records[:1] + others))
    except InvalidZone:
        return None


def _zone_after_differences(zone, records):
    """Return the Zone after differences that apply to a Zone, or None if they do not."""
    changes = _changes_of(records[1:-1])
    newest = sets_of(records[:1])[0]
    if zone is None or changes == [] or changes[-1][2] != newest:
        return None
    try:
        for change in changes:
            zone = apply_difference(zone, change)
        check_zone(zone)
    except (InvalidDifference, InvalidZone):
        return None
    return zone


def _changes_of(records):
    """Return the differences that records consist of, of which the first one is a SOA record.

    There are none if a last one lacks its second half.
    """
    begins = [at for at, record in enumerate(records) if record[1] == "SOA"]
    halves = [sets_of(records[begin:end]) for begin, end in zip(begins, [*begins[1:], len(records)])]
    if len(halves) % 2 > 0:
        return []
    return [(old[0], old[1:], new[0], new[1:]) for old, new in zip(halves[::2], halves[1::2])]
