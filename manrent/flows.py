"""Streams through a web: how much can go from one to another, and who can be reached.

A web is a dict by each one of a dict by others: so much can go from him to the other. Where it
tells of one way between two it tells of the other, too, though there be no room on it.
"""


def filled(web, start, goal):
    """The room that is left in a web when as much as can goes from the start to the goal: a new web."""
    room = {one: dict(others) for one, others in web.items()}
    steps = way(room, start, goal)
    while steps is not None:
        many = min([room[one][other] for one, other in steps])
        for one, other in steps:
            room[one][other] -= many
            # What goes one way may be sent back.
            room[other][one] += many
        steps = way(room, start, goal)
    return room


def way(room, start, goal):
    """The steps (from, to) of a way with room from the start to the goal, or None."""
    # A way of the fewest steps: how many ways there are to fill then hangs on
    # how many are in the web, and not on how great its numbers are.
    before = reached(room, start)
    if goal not in before:
        return None
    steps = []
    while goal != start:
        steps.append((before[goal], goal))
        goal = before[goal]
    return steps


def reached(room, start):
    """By each one who can be reached: from whom, by the fewest steps (None of the start)."""
    before = {start: None}
    met = [start]
    at = 0
    while at < len(met):
        one = met[at]
        for other, many in room[one].items():
            if many > 0 and other not in before:
                before[other] = one
                met.append(other)
        at += 1
    return before
