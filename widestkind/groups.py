"""Groups of names of which each uses the others, directly or through further ones."""


def reached(uses, names):
    """The dict of True for names and all that they use, directly or through others; `uses` tells what each uses."""
    found = {name: True for name in names}
    waiting = list(names)
    while waiting:
        for other in uses[waiting.pop()]:
            if other not in found:
                found[other] = True
                waiting.append(other)
    return found


def grouped(uses):
    """The ascending list of the groups, as ascending lists, of the names in a dict that tells what each uses."""
    behind = {name: reached(uses, uses[name]) for name in uses}
    found = []
    done = set()
    for name in sorted(uses):
        if name not in done:
            group = [name]
            for other in sorted(behind[name]):
                if other != name and name in behind[other]:
                    group.append(other)
            for other in group:
                done.add(other)
            found.append(sorted(group))
    return found


def in_turn(groups, uses):
    """The groups, each behind those that it uses; what is in no group does not count."""
    left = {name: True for group in groups for name in group}
    found = []
    waiting = groups
    while waiting:
        later = []
        for group in waiting:
            if any([word in left and word not in group for name in group for word in uses[name]]):
                later.append(group)
                continue
            found.append(group)
            for name in group:
                del left[name]
        waiting = later
    return found
