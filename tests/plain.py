"""What the tests share: values of all kinds, a plain reading of the definitions, and the document's examples."""

import ast
import itertools

import packedseats.errors
from packedseats.councils import Council

GREAT = 10 ** 18
TWELVE_SIDES = [(column, way) for column in range(6) for way in ("least", "most")]


def nested(depth, inmost=1):
    """Return a list in a list in a list, so deep."""
    thing = inmost
    for _ in range(depth):
        thing = [thing]
    return thing


def odd_values():
    """Return new values of all kinds that no function of the package wants as they are."""
    return [
        None, True, False, "", "least", "a b", "\n", b"", b"least", {}, {"a": 1}, {1: [2]}, set(), {1, 2},
        frozenset({"a"}), nested(8), nested(8, ()), nested(7, "a"), (((1,),),), [[], ()], [None], (None,),
        list(range(5000)), tuple(range(5000)), ["a"] * 5000, "a" * 5000, {k: k for k in range(5000)}, object(),
        ValueError("no"), len, int, ..., range(3),
    ]


def outcome_of(lines):
    """Run the lines of an example, and return the repr of what the last one returns, or `raises ERROR(..)`."""
    names = {}
    try:
        for line in lines[:-1]:
            exec(line, names)
        result = eval(lines[-1], names) if is_expression(lines[-1]) else exec(lines[-1], names)
    except packedseats.errors.CouncilError as error:
        fields = ", ".join([repr(field) for field in vars(error).values()])
        return f"raises {type(error).__name__}({fields})"
    return repr(result)


def is_expression(line):
    return isinstance(ast.parse(line).body[0], ast.Expr)


def check_examples(case, text):
    """Check each example of a text: lines with `>>> `, and then one line with what comes of them."""
    lines = []
    for line in text.strip().split("\n"):
        if line.startswith(">>> "):
            lines.append(line[4:])
        else:
            with case.subTest(example=lines[-1]):
                case.assertEqual(outcome_of(lines), line)
            lines = []
    case.assertEqual(lines, [])


def some_council(chance, width, seats=None, greatest=None):
    """Return a Council of the width, now and then with a seat that outweighs all others."""
    seats = seats or chance.randint(2, 7)
    greatest = greatest or chance.choice([1, 2, 5, 20, 10 ** 6])
    weights = [chance.randint(1, greatest) for _ in range(seats)]
    if chance.random() < 0.2:
        weights[chance.randrange(seats)] = min(10 ** 6, sum(weights) + 1)
    return Council(weights, [chance.randint(1, sum(weights)) for _ in range(width)])


def plain_settle(weights, quotas, rows):
    """Return what [2] says that a session makes."""
    made = []
    for column, quota in enumerate(quotas):
        entries = [row[column] for row in rows]
        enough = [v for v in entries if sum(w for w, entry in zip(weights, entries) if entry <= v) >= quota]
        made.append(min(enough))
    return tuple(made)


def plain_allowance(weights, quotas, side):
    column, way = side
    return {"least": quotas[column] - 1, "most": sum(weights) - quotas[column]}[way]


def plain_is_heavy(council, sides):
    """Return whether seats can be put into sides, seat by seat, the heaviest first, in all ways that have room."""
    rooms = [plain_allowance(council.weights(), council.quotas(), side) for side in sides]
    return plain_can_put(sorted(council.weights(), reverse=True), rooms)


def plain_can_put(weights, rooms):
    if not weights:
        return True
    for at, room in enumerate(rooms):
        if weights[0] <= room and room not in rooms[:at]:
            if plain_can_put(weights[1:], rooms[:at] + [room - weights[0]] + rooms[at + 1:]):
                return True
    return False


def subsets_of(things):
    """Return all subsets as lists, each in the order of things."""
    return [list(some) for many in range(len(things) + 1) for some in itertools.combinations(things, many)]


def plain_meets(row, wish):
    return all((row[column] >= value) if way == "least" else (row[column] <= value) for column, way, value in wish)


def plain_sessions(rows, council):
    """Return all rows that one session of the council makes from these rows.

    Sessions are gathered seat by seat: of each, the weight of the seats with at most this entry, for each entry of
    each column, in one great number of fields.
    """
    quotas = council.quotas()
    entries = [sorted({row[column] for row in rows}) for column in range(len(quotas))]
    fields = [(column, entry) for column in range(len(quotas)) for entry in entries[column]]
    shift = {field: 24 * at for at, field in enumerate(fields)}
    marks = [sum(1 << shift[field] for field in fields if row[field[0]] <= field[1]) for row in rows]
    sessions = {0}
    for weight in council.weights():
        sessions = {session + weight * mark for session in sessions for mark in marks}
    made = set()
    for session in sessions:
        row = []
        for column, quota in enumerate(quotas):
            row.append(next(v for v in entries[column] if (session >> shift[(column, v)]) % (1 << 24) >= quota))
        made.add(tuple(row))
    return made


def plain_made(rows, councils):
    """Return the set of all rows that can be made, by holding all sessions until nothing new comes of them."""
    made = set(rows)
    while True:
        new = set().union(*[plain_sessions(sorted(made), council) for council in councils]) if made else set()
        if new <= made:
            return made
        made |= new


def plain_paper(rows, councils, wish):
    """Return the paper with the fewest bounds, of several the first one in order, or None."""
    for paper in subsets_of(sorted(wish)):
        if not any(plain_meets(row, paper) for row in rows):
            sides = [bound[:2] for bound in paper]
            if not any(plain_is_heavy(council, sides) for council in councils):
                return paper
    return None


def some_small_board(chance):
    """Return (rows, councils) of a board so small that all sessions can be held: one to three columns."""
    width = chance.randint(1, 3)
    entries = chance.choice([1, 2, 3])
    seats = {1: [2, 3, 4, 5, 6, 7], 2: [2, 3, 4, 5], 3: [2, 3, 3, 4]}[width]
    rows = [some_row(chance, width, 0, entries) for _ in range(chance.randint(0, 4))]
    councils = [some_council(chance, width, chance.choice(seats), chance.choice([1, 2, 3])) for _ in range(2)]
    return rows, councils[:chance.randint(1, 2)]


def some_row(chance, width, least, greatest):
    return tuple([chance.randint(least, greatest) for _ in range(width)])


def some_wish(chance, width, least, greatest, bounds=None):
    """Return a wish of the width in any order, with so many bounds."""
    sides = TWELVE_SIDES[:2 * width]
    bounds = chance.randint(0, len(sides)) if bounds is None else bounds
    return [(*side, chance.randint(least, greatest)) for side in chance.sample(sides, bounds)]


def wish_for_a_made_row(chance, rows, councils):
    """Return a wish that some row that can be made meets, one that nobody told if there is such a row."""
    made = plain_made(rows, councils)
    row = chance.choice(sorted(made - set(rows)) or sorted(made))
    every = [(column, way, entry) for column, entry in enumerate(row) for way in ("least", "most")]
    return chance.sample(every, chance.randint((len(every) + 1) // 2, len(every)))


def check_plan(case, rows, councils, wish, plan, most=None):
    """Check a plan as [50] and [51] describe it, by sessions that are written here, and that its end meets the wish.

    It may have so many steps at most: if this is not told, as many as [51] says.
    """
    case.assertIs(type(plan), tuple)
    steps, end = plan
    case.assertIs(type(steps), list)
    case.assertLessEqual(len(steps), 2 ** len(wish) - 1 if most is None else most)
    known = list(rows)
    for step in steps:
        case.assertIs(type(step), tuple)
        council, seats = step
        case.assertEqual([type(council), type(seats)], [int, list])
        case.assertTrue(0 <= council < len(councils))
        case.assertEqual([type(seat) for seat in seats], [int] * len(councils[council]))
        case.assertTrue(all(0 <= seat < len(known) for seat in seats))
        seated = [known[seat] for seat in seats]
        known.append(plain_settle(councils[council].weights(), councils[council].quotas(), seated))
    case.assertIs(type(end), int)
    case.assertTrue(0 <= end < len(known))
    case.assertTrue(plain_meets(known[end], wish))
    return known[end]
