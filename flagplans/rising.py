"""Levels that rise along links by weights, and the circles along which they would rise for ever.

A link is a tuple that begins with two nodes. Its weight says by how much the level of its second node must be at
least higher than that of its first one.
"""


def lift(levels, lifted, links, weights):
    """Lift nodes where a link asks for it. Return the node that was lifted last, or None if the levels are right."""
    last = None
    for link, weight in zip(links, weights):
        level = levels[link[0]] + weight
        if level > levels[link[1]]:
            levels[link[1]] = level
            lifted[link[1]] = link
            last = link[1]
    return last


def circle_behind(lifted, node):
    """Return the circle of links along which the nodes were lifted, seen backwards from a node."""
    # After so many steps backwards the node is one of the circle.
    for _ in lifted:
        node = lifted[node][0]
    row = [lifted[node]]
    while row[0][0] != node:
        row = [lifted[row[0][0]]] + row
    return row


def settle(nodes, links, weights):
    """Return a dict with right levels, and None; or None and a circle of links with weights of more than 0 together."""
    levels = {node: 0 for node in nodes}
    lifted = {}
    # Without such a circle no level rises by a row with more links than there are nodes.
    for _ in range(len(levels) + 1):
        last = lift(levels, lifted, links, weights)
        if last is None:
            return levels, None
    return None, circle_behind(lifted, last)
