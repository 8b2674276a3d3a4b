"""Rings: kinds that would have to be within themselves."""


def ring_of(joins):
    """A list of nodes, or None: the point of each with its last step left out is that of what is the same as the
    node ahead of it, and for the first one, as the last one.
    """
    done = set()
    for start in range(len(joins.points)):
        if joins.leaders[start] != start or start in done or start not in joins.steps:
            continue
        path = [(start, start, list(joins.steps[start].values()))]
        depths = {start: 0}
        while path:
            _, leader, left = path[-1]
            if not left:
                done.add(leader)
                del depths[leader]
                path.pop()
                continue
            node = left.pop()
            inner = joins.leaders[node]
            if inner in depths:
                return [one for one, _, _ in path[depths[inner] + 1:]] + [node]
            if inner in joins.steps and inner not in done:
                depths[inner] = len(path)
                path.append((node, inner, list(joins.steps[inner].values())))
    return None
