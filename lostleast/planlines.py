"""Plans as lines, one for each entry."""

from lostleast.errors import BadPaper
from lostleast.plans import Plan, are_lots
from lostleast.words import fraction_of, is_long_number

# How many numbers the events have.
EVENTS = {"shown": 1, "asked": 2, "did": 1}


def plan_lines(plan):
    """The lines that write a plan."""
    return [entry_line(view, lots) for view, lots in plan.entries()]


def entry_line(view, lots):
    words = ["at"]
    for event in view:
        words.extend([str(part) for part in event])
    return " ".join([*words, "do", *[str(lot) for lot in lots]])


def read_plan(lines):
    """The plan that lines write; raises BadPaper."""
    entries = []
    views = set()
    for at, line in enumerate(lines):
        view, lots = read_entry(line, at)
        if view in views:
            raise BadPaper(at)
        views.add(view)
        entries.append((view, lots))
    return Plan(entries)


def read_entry(line, at):
    """The view and the lots of the line with this index."""
    words = line.split(" ")
    if words[0] != "at" or "do" not in words:
        raise BadPaper(at)
    behind = words.index("do")
    view = view_of(words[1:behind])
    lots = [fraction_of(word) for word in words[behind + 1:]]
    if view is None or None in lots or not are_lots(lots):
        raise BadPaper(at)
    return view, lots


def view_of(words):
    """The view of which words write the events, or None if they write none."""
    events = []
    at = 0
    while at < len(words):
        behind = at + 1 + EVENTS.get(words[at], 0)
        numbers = words[at + 1:behind]
        if words[at] not in EVENTS or behind > len(words) or not all([is_long_number(word) for word in numbers]):
            return None
        events.append((words[at], *[int(word) for word in numbers]))
        at = behind
    return tuple(events)
