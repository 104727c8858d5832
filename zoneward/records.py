"""Records `(name, kind, ttl, value)` and record sets `(name, kind, ttl, values)`."""

KIND_CODES = {"A": 1, "NS": 2, "CNAME": 5, "SOA": 6, "MX": 15, "TXT": 16, "IXFR": 251, "AXFR": 252}
TRANSFER_KINDS = ("IXFR", "AXFR")
MAX_TTL = 2147483647


def records_of(sets):
    """Return the list of the records of a list of sets, in order."""
    return [(name, kind, ttl, value) for name, kind, ttl, values in sets for value in values]


def sets_of(records):
    """Return the list of the sets of a list of records, in the order of their first records."""
    ttls = {}
    values = {}
    for name, kind, ttl, value in records:
        key = (name, kind)
        ttls[key] = min(ttl, ttls.get(key, ttl))
        values.setdefault(key, []).append(value)
    return [(*key, ttls[key], tuple(sorted(set(values[key])))) for key in ttls]


def kind_of(code, is_query=False):
    """Return the record kind or, if asked, the query kind with a code; None if there is none."""
    for kind, known in KIND_CODES.items():
        if known == code and (is_query or kind not in TRANSFER_KINDS):
            return kind
    return None


def code_of(kind):
    """Return the code of a query kind."""
    return KIND_CODES[kind]
