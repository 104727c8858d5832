"""Records `(name, kind, ttl, value)` and record sets `(name, kind, ttl, values)`."""

RECORD_KINDS = {1: "A", 2: "NS", 5: "CNAME", 6: "SOA", 15: "MX", 16: "TXT"}
TRANSFER_KINDS = {251: "IXFR", 252: "AXFR"}


def records_of(sets):
    """Return the list of the records of a list of sets, in order."""
    return [(name, kind, ttl, value) for name, kind, ttl, values in sets for value in values]


def sets_of(records):
    """Return the list of the sets of a list of records, in the order of their first records."""
    ttls = {}
    values = {}
    for name, kind, ttl, value in records:
        key = (name, kind)
        ttls[key] = min(ttl, ttls.get(key, ttl))
        values.setdefault(key, []).append(value)
    return [(*key, ttls[key], tuple(sorted(set(values[key])))) for key in ttls]


def kind_of(code, is_query=False):
    """Return the record kind or, if asked, the query kind with a code; None if there is none."""
    if is_query and code in TRANSFER_KINDS:
        return TRANSFER_KINDS[code]
    return RECORD_KINDS.get(code)
