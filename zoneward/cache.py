"""The cache: record sets and negative entries, each kept until a time."""

MIN_TTL = 1
MAX_KEPT_TTL = 86400
ANSWER_RANK = 2
REFERRAL_RANK = 1
# Negative entries have a rank of their own, which is no rank of a positive entry.
NEGATIVE_RANK = 0


class Entry:
    """A record set with its rank and the time at which it ends."""

    def __init__(self, now, record_set, rank):
        _, _, ttl, _ = record_set
        self.record_set = record_set
        self.rank = rank
        self.ends = now + min(max(MIN_TTL, ttl), MAX_KEPT_TTL)

    def is_kept(self, now):
        """Return True if the entry has not ended at a time."""
        return now < self.ends

    def left(self, now):
        """Return the set with the seconds that are left as its ttl."""
        name, kind, _, values = self.record_set
        return name, kind, self.ends - now, values


class Cache:
    """At most as many entries as its limit says."""

    def __init__(self, limit):
        self.limit = limit
        # By name, kind, and whether they are negative; in the order in which they were put.
        self.entries = {}

    def put(self, now, record_set, rank):
        """Put a set with a rank."""
        name, kind, _, _ = record_set
        old = self.kept_entry(now, name, kind, False)
        if old is not None and old.rank > rank:
            return
        self.drop(name, kind, True)
        self.drop(name, None, True)
        self.drop(name, kind, False)
        self.entries[name, kind, False] = Entry(now, record_set, rank)
        self.shrink(now)

    def put_negative(self, now, name, kind, record_set):
        """Put a negative entry with an SOA set; the kind is None if the name does not exist."""
        self.drop(name, kind, True)
        self.entries[name, kind, True] = Entry(now, record_set, NEGATIVE_RANK)
        self.shrink(now)

    def find(self, now, name, kind, rank=REFERRAL_RANK):
        """Return the set of a name and a kind with at least a rank and with the seconds that are left, or None."""
        entry = self.kept_entry(now, name, kind, False)
        if entry is None or entry.rank < rank:
            return None
        return entry.left(now)

    def find_negative(self, now, name, kind):
        """Return the SOA set of a negative entry and whether it says that the name does not exist, or None."""
        for entry_kind in (None, kind):
            entry = self.kept_entry(now, name, entry_kind, True)
            if entry is not None:
                return entry.left(now), entry_kind is None
        return None

    def size(self):
        """Return the number of the entries."""
        return len(self.entries)

    def kept_entry(self, now, name, kind, is_negative):
        """Return the entry that has not ended, or None."""
        entry = self.entries.get((name, kind, is_negative))
        if entry is None or not entry.is_kept(now):
            return None
        return entry

    def drop(self, name, kind, is_negative):
        """Remove an entry if there is one, so that another one does not take its place in the order."""
        if (name, kind, is_negative) in self.entries:
            del self.entries[name, kind, is_negative]

    def shrink(self, now):
        """Remove entries if there are more than the limit: the ended ones, then the one that ends first."""
        if len(self.entries) <= self.limit:
            return
        self.entries = {key: entry for key, entry in self.entries.items() if entry.is_kept(now)}
        if len(self.entries) > self.limit:
            # Of several with the same end, min takes the one that was put first.
            first = min(self.entries, key=lambda key: self.entries[key].ends)
            del self.entries[first]
