"""Zoneward: a name service with zones, transfers and caching resolvers."""
