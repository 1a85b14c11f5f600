"""Papers: the lines that write what was found."""

from lostleast.errors import BadPaper
from lostleast.least import Found
from lostleast.plans import Plan, are_lots, sure
from lostleast.tree import views_of
from lostleast.words import fraction_of

KINDS = ("regret", "share")


def paper_lines(tree, found):
    """The lines that write what was found."""
    lines = [f"{found.kind} {found.value}"]
    for view, moves in views_of(tree, "chooser"):
        lines.append(" ".join([str(lot) for lot in found.plan.lots_at(view, moves)]))
    views = views_of(tree, "comer")
    for coming, weight in found.weights:
        choices = [str(choice_at(coming, view, moves)) for view, moves in views]
        lines.append(" ".join([str(weight), *choices]))
    return lines


def choice_at(coming, view, moves):
    """The move that a plan without lots makes at a view."""
    lots = coming.lots_at(view, moves)
    return [move for move, lot in enumerate(lots) if lot.num > 0][0]


def read_paper(tree, lines):
    """What lines write; raises BadPaper."""
    kind, value = read_head(lines)
    entries = []
    for at, (view, moves) in enumerate(views_of(tree, "chooser"), start=1):
        entries.append((view, read_lots(lines, at, moves)))
    views = views_of(tree, "comer")
    pairs = [read_pair(lines, at, views) for at in range(len(entries) + 1, len(lines))]
    return Found(kind, value, Plan(entries), pairs)


def words_at(lines, at):
    """The words of a line; raises BadPaper if the line is missing."""
    if at >= len(lines):
        raise BadPaper(at)
    return lines[at].split(" ")


def read_head(lines):
    """The kind and the value."""
    words = words_at(lines, 0)
    value = fraction_of(words[-1])
    if len(words) != 2 or words[0] not in KINDS or value is None:
        raise BadPaper(0)
    return words[0], value


def read_lots(lines, at, moves):
    """The lots at a view with so many moves."""
    lots = [fraction_of(word) for word in words_at(lines, at)]
    if len(lots) != moves or None in lots or not are_lots(lots):
        raise BadPaper(at)
    return lots


def read_pair(lines, at, views):
    """The pair of a coming and its weight."""
    first, *rest = words_at(lines, at)
    weight = fraction_of(first)
    if weight is None or weight.num == 0 or len(rest) != len(views):
        raise BadPaper(at)
    for word, (_, moves) in zip(rest, views):
        if word not in [str(move) for move in range(moves)]:
            raise BadPaper(at)
    return sure(views, [int(word) for word in rest]), weight
