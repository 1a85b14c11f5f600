"""The values of expressions."""

VALUES = 65536


def value_of(expression, stored):
    """The value of an expression, where `stored` has the value of each variable."""
    if expression[0] == "number":
        return expression[1]
    if expression[0] == "variable":
        return stored[expression[1]]
    operator, first, second = expression
    return combined(operator, value_of(first, stored), value_of(second, stored))


def combined(operator, first, second):
    """What an operator makes of two values."""
    if operator == "+":
        return (first + second) % VALUES
    if operator == "-":
        return max(0, first - second)
    if operator == "*":
        return first * second % VALUES
    if operator == "<":
        return 1 if first < second else 0
    if operator == "=":
        return 1 if first == second else 0
    if second == 0:
        return 0
    return first // second if operator == "/" else first % second
