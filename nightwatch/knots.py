"""Knots of those who wait for one another."""


def is_served_within(servers, members):
    return servers != [] and all([server in members for server in servers])


# Whoever can't be in the set is left out, and so are those that this one might serve, until all that stay may.
def greatest(waits):
    members = sorted(waits)
    kept = [one for one in members if is_served_within(waits[one], members)]
    while kept != members:
        members = kept
        kept = [one for one in members if is_served_within(waits[one], members)]
    return kept


def round_in(waits, members):
    if len(members) == 0:
        return []
    way = []
    one = min(members)
    while one not in way:
        way.append(one)
        one = min(waits[one])
    return way[way.index(one):]
