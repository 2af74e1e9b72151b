"""What the tests share: values of all kinds, and the document's examples, run to the letter."""

import ast

import packedseats.errors

GREAT = 10 ** 18


def nested(depth, inmost=1):
    """Return a list in a list in a list, so deep."""
    thing = inmost
    for _ in range(depth):
        thing = [thing]
    return thing


def odd_values():
    """Return new values of all kinds that no function of the package wants as they are."""
    return [
        None, True, False, "", "least", "a b", "\n", b"", b"least", {}, {"a": 1}, {1: [2]}, set(), {1, 2},
        frozenset({"a"}), nested(8), nested(8, ()), nested(7, "a"), (((1,),),), [[], ()], [None], (None,),
        list(range(5000)), tuple(range(5000)), ["a"] * 5000, "a" * 5000, {k: k for k in range(5000)}, object(),
        ValueError("no"), len, int, ..., range(3),
    ]


def outcome_of(lines):
    """Run the lines of an example, and return the repr of what the last one returns, or `raises ERROR(..)`."""
    names = {}
    try:
        for line in lines[:-1]:
            exec(line, names)
        result = eval(lines[-1], names) if is_expression(lines[-1]) else exec(lines[-1], names)
    except packedseats.errors.CouncilError as error:
        fields = ", ".join([repr(field) for field in vars(error).values()])
        return f"raises {type(error).__name__}({fields})"
    return repr(result)


def is_expression(line):
    return isinstance(ast.parse(line).body[0], ast.Expr)


def check_examples(case, text):
    """Check each example of a text: lines with `>>> `, and then one line with what comes of them."""
    lines = []
    for line in text.strip().split("\n"):
        if line.startswith(">>> "):
            lines.append(line[4:])
        else:
            with case.subTest(example=lines[-1]):
                case.assertEqual(outcome_of(lines), line)
            lines = []
    case.assertEqual(lines, [])
