"""Who holds shares of which firm, and which firms strangers hold in the end."""

from groupbooks.errors import BadAmount, NoFirm, Ringed, Unheld


def shares_of(rows, holder, firm):
    return sum([row[2] for row in rows if row[0] == holder and row[1] == firm])


def all_shares(rows, firm):
    return sum([row[2] for row in rows if row[1] == firm])


def owners_of(rows, firm):
    return sorted(set([row[0] for row in rows if row[1] == firm]))


def strangers_of(firms, rows):
    return sorted(set([row[0] for row in rows if row[0] not in firms]))


def leads_on(firms, rows, firm, levels):
    return any([owner not in firms or owner in levels for owner in owners_of(rows, firm)])


def levels_of(firms, rows):
    levels = {}
    level = 0
    # All firms of one level are found ahead of the next one, so the first
    # level at which a firm is found is the least one.
    found = [firm for firm in firms if leads_on(firms, rows, firm, levels)]
    while found != []:
        levels.update(dict([(firm, level) for firm in found]))
        level = level + 1
        waiting = [firm for firm in firms if firm not in levels]
        found = [firm for firm in waiting if leads_on(firms, rows, firm, levels)]
    return levels


def led_out(firms, rows, firm):
    return leads_on(firms, rows, firm, levels_of(firms, rows))


def ring_of(firms, rows):
    levels = levels_of(firms, rows)
    return sorted([firm for firm in firms if firm not in levels])


def checked(firms, rows):
    for holder, firm, shares in rows:
        if firm not in firms:
            raise NoFirm(firm)
    for holder, firm, shares in rows:
        if shares < 1:
            raise BadAmount(shares)
    for firm in firms:
        if owners_of(rows, firm) == []:
            raise Unheld(firm)
    ring = ring_of(firms, rows)
    if ring != []:
        raise Ringed(ring)
