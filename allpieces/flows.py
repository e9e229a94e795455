"""The most that can flow from one place to another one.

Arcs are triples (tail, head, room): up to room, a number, can flow from the place tail to the place head.
Nothing is checked here.
"""


def fullest_flow(arcs, start, end):
    """Return a list with how much flows through each arc when as much as possible flows from start to end."""
    flow = [0 for arc in arcs]
    path = _open_path(arcs, flow, start, end)
    while path:
        more = min([abs(left) for k, left in path])
        for k, left in path:
            flow[k] = flow[k] + more if left > 0 else flow[k] - more
        path = _open_path(arcs, flow, start, end)
    return flow


def reached(arcs, flow, start):
    """Return a dict of the places to which more could flow from start, each with the last step of a path to it.

    A step is a triple (place ahead of it, number of the arc, left): left is how much more has room in the arc,
    or, as a number below 0, how much of what flows through it towards that place can be taken back.
    """
    steps = _steps(arcs, flow)
    came = {start: None}
    waiting = [start]
    while waiting:
        # First in, first out: only shortest paths keep the number of paths small, however much room there is.
        place = waiting.pop(0)
        for head, k, left in steps.get(place, []):
            if head not in came:
                came[head] = (place, k, left)
                waiting.append(head)
    return came


def reaching_to(arcs, flow, end):
    """Return a dict of the places from which more could flow to end."""
    return reached([(head, tail, room) for tail, head, room in arcs], flow, end)


def _steps(arcs, flow):
    """Return a dict of lists, by places: triples (head, arc, left) of what more could flow from there, and whither."""
    steps = {}
    for k, (tail, head, room) in enumerate(arcs):
        if flow[k] < room:
            steps.setdefault(tail, []).append((head, k, room - flow[k]))
        if flow[k] > 0:
            steps.setdefault(head, []).append((tail, k, -flow[k]))
    return steps


def _open_path(arcs, flow, start, end):
    """Return a list of the pairs (arc, left) of a path by which more could flow to end, [] if there is none."""
    came = reached(arcs, flow, start)
    path = []
    step = came.get(end)
    while step is not None:
        place, k, left = step
        path.append((k, left))
        step = came[place]
    return path
