"""Groups of parts that may be one player's together, and crowds of parts of which each two clash."""


def are_numbered(groups):
    many = 0
    for group in groups:
        if not 0 <= group <= many:
            return False
        if group == many:
            many += 1
    return True


def are_right(many, clashes, groups):
    if len(groups) != many or not are_numbered(groups):
        return False
    return all([groups[i] != groups[j] for i, j in clashes])


def may_join(clashes, groups, group):
    part = len(groups)
    return all([(other, part) not in clashes for other in range(part) if groups[other] == group])


# Only the first group that is still empty is tried, so each way to part them is met once, and numbered as told.
def groups_within(many, clashes, k, groups):
    if len(groups) == many:
        return groups
    used = max(groups, default=-1) + 1
    for group in range(min(used + 1, k)):
        if may_join(clashes, groups, group):
            found = groups_within(many, clashes, k, groups + [group])
            if found is not None:
                return found
    return None


def fewest_of(many, clashes):
    k = 0
    groups = groups_within(many, clashes, k, [])
    while groups is None:
        k += 1
        groups = groups_within(many, clashes, k, [])
    return (k, groups)


# Each of the parts, rising, stands behind the crowd and clashes with all of it.
def greatest_with(clashes, crowd, parts):
    greatest = crowd
    for at, part in enumerate(parts):
        behind = [other for other in parts[at + 1:] if (part, other) in clashes]
        found = greatest_with(clashes, crowd + [part], behind)
        if len(found) > len(greatest):
            greatest = found
    return greatest


def crowd_of(many, clashes):
    return greatest_with(clashes, [], list(range(many)))
