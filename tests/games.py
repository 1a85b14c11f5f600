"""Games for tests that go over many of them."""

import random
from math import prod

from lostleast.errors import LossError
from lostleast.tree import views_of
from tests.helpers import count, tree

SMALL = (
    "",
    "pay 5",
    "take 5",
    "var x 2 draw x 2 pay x",
    "var x 2 choose x 2 pay x",
    "var x 2 come x 2 pay x",
    "var x 1 choose x 1 come x 1 pay 3",
    "var x 2 var y 2 come x 2 choose y 2 if = x y pay 1 end",
    "var x 2 var y 2 come x 2 show chooser x choose y 2 if = x y pay 1 end",
    "var x 2 var y 2 choose y 2 show comer y come x 2 if = x y pay 1 end",
    "var x 3 var y 3 choose y 3 come x 3 if < x y pay x else take y pay 4 end",
    "var x 2 var y 2 var z 2 draw z 2 show comer z come x 2 choose y 2 if = x y pay + 1 z end",
    "var x 2 var y 2 var z 2 draw z 2 show chooser z come x 2 choose y 2 if = x y pay + 1 z else if z take 2 end end",
    "var x 9 var y 9 come x 3 choose y 2 pay mod * + x 2 + * 3 y 1 7 show chooser x choose x 2 pay * x y",
    "var x 9 var y 9 var z 9 draw z 3 show comer z come x 2 show chooser < z 1 choose y 2 pay mod + * 5 z + x y 4",
    "var x 8 var y 8 come x 8 choose y 4 pay mod * + x 1 + * 2 y 3 11",
    "var x 9 var y 9 come x 2 come y 2 set x + x * 2 y choose y 4 if = x y pay 3 else pay < x y end",
    "var x 9 var y 9 choose x 2 show comer x come y 3 choose x 3 pay * x y take x",
    "var x 9 var y 9 come x 2 if x come y 3 else choose y 2 pay y end choose x 2 if = x y pay 2 end",
    "var x 4 var y 4 draw x 4 show comer x come y 2 show chooser = x y choose x 2 if = x y pay 7 end",
    "var a 9 var b 9 var c 9 var d 9 come a 2 choose b 2 come c 2 choose d 2 pay mod + * 3 a + * 5 b + * 7 c d 6",
)

# All of these have ends below 0, or pay 0 always.
WITHOUT_SHARE = (
    "take 5",
    "",
    "var x 2 come x 2",
    "var x 3 var y 3 choose y 3 come x 3 if < x y pay x else take y end",
)


def expression(rng, depth):
    if depth == 0 or rng.random() < 0.3:
        return rng.choice(["x", "y", "z", str(rng.randint(0, 6))])
    operator = rng.choice(["+", "-", "*", "/", "mod", "<", "=", "+", "mod"])
    return f"{operator} {expression(rng, depth - 1)} {expression(rng, depth - 1)}"


def statements(rng, many, depth):
    return " ".join(statement(rng, depth) for _ in range(many))


def statement(rng, depth):
    kind = rng.random()
    name = rng.choice("xyz")
    if kind < 0.12:
        return f"draw {name} {rng.randint(1, 3)}"
    if kind < 0.30:
        return f"choose {name} {rng.randint(1, 3)}"
    if kind < 0.48:
        return f"come {name} {rng.randint(1, 3)}"
    if kind < 0.58:
        return f"show {rng.choice(['chooser', 'comer'])} {expression(rng, 1)}"
    if kind < 0.68 and depth > 0:
        part = statements(rng, 2, depth - 1)
        return f"if {expression(rng, 1)} {part} else {statements(rng, 2, depth - 1)} end"
    if kind < 0.93:
        return f"pay mod {expression(rng, 2)} {rng.randint(2, 9)}"
    return f"set {name} {expression(rng, 2)}"


def plans_in(root, seat):
    return prod(many for _, many in views_of(root, seat))


def random_trees(seed, many, most_plans=81, debts=False):
    """Trees of random games with few plans, the same ones at each call with the same arguments."""
    rng = random.Random(seed)
    found = []
    while len(found) < many:
        text = f"var x {rng.randint(2, 5)} var y {rng.randint(2, 5)} var z 7 " + statements(rng, rng.randint(4, 8), 2)
        if debts:
            text += f" take {rng.randint(1, 4)} {statement(rng, 1)} pay mod + * 3 x + * 5 y z 8"
        else:
            text += " pay mod + * 3 x + * 5 y z 8"
        try:
            root = tree(text)
        except LossError:
            continue
        if 2 <= plans_in(root, "chooser") <= most_plans and 2 <= plans_in(root, "comer") <= 64 and count(root) <= 99:
            found.append((text, root))
    return found
