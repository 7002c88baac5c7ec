"""What several tests use: values that are refused, and slow but plain oracles."""

import itertools

BAD_PRIMES = [
    0, 1, 4, 6, 9, 49, 91, 95, -2, -3, -97, 98, 99, 100, 101, 103, 10**40 + 1, True, False, None,
    2.0, 7.0, 2.5, "7", "", b"7", [7], (7,), {7: 7}, {7},
]
PRIMES = [2, 3, 5, 7, 11, 13, 17, 19, 23, 29, 31, 37, 41, 43, 47, 53, 59, 61, 67, 71, 73, 79, 83, 89, 97]
BIG = 10**39 + 7

GOOD_NAMES = ["a", "z", "a0", "a.", "a..", "s.1", "k.a", "x9z", "b.1.2", "a" * 20, "a" + "9" * 19]
BAD_NAMES = [
    "", "0", "1a", ".a", ".", "A", "aB", "a b", " a", "a ", "a~", "a#0", "a_b", "a-b", "a+b", "a*b",
    "a" * 21, "a\n", "a\t", "\u00e9", "a\u00e9", "a\u0661", "~", "#", "a(", "a,", "`", "{", "a/", "a:", "a`", "a{",
]
BAD_VALUES = [None, True, False, 0, 1, 5, 1.5, b"a", ["a"], ("a",), {"a": 1}, {"a"}]


def check_raises(case, error, told, call):
    """The call raises exactly this error, with these attributes."""
    try:
        answer = call()
    except error as caught:
        case.assertIs(caught.__class__, error)
        for name, value in told.items():
            got = getattr(caught, name)
            case.assertEqual(got, value)
            case.assertIs(got.__class__, value.__class__)
        return
    case.fail(f"{error.__name__} was not raised, but {answer!r} returned")


def paper_fault(call, names):
    """The attributes of the fault that a checker of papers raises; None if it raises nothing."""
    from holdingsshut.errors import PaperError

    try:
        answer = call()
    except PaperError as caught:
        return tuple(getattr(caught, name) for name in names)
    if answer is not None:
        raise AssertionError(answer)
    return None


def check_bad_primes(case, call):
    """The call of a prime refuses each value that is none."""
    from holdingsshut.errors import BadPrime

    for p in BAD_PRIMES:
        check_raises(case, BadPrime, {"value": p}, lambda: call(p))


def as_form(p, totals):
    return tuple(sorted((name, n % p) for name, n in totals.items() if n % p))


def sum_of(p, pairs):
    """The sum of multiples: of pairs (integer, form)."""
    totals = {}
    for by, form in pairs:
        for name, number in form:
            totals[name] = totals.get(name, 0) + by * number
    return as_form(p, totals)


def span(p, forms):
    """All forms of the least space that contains the forms."""
    found = {()}
    for form in forms:
        found = {sum_of(p, [(1, old), (by, form)]) for old in found for by in range(p)}
    return found


def worlds(p, names):
    """All worlds over the names, as dicts."""
    for numbers in itertools.product(range(p), repeat=len(names)):
        yield dict(zip(names, numbers))


def number_in(p, form, world):
    return sum(c * world.get(name, 0) for name, c in form) % p


def all_forms(p, names):
    for numbers in itertools.product(range(p), repeat=len(names)):
        yield tuple(sorted((name, n) for name, n in zip(names, numbers) if n))


def random_form(random, p, names, most):
    """A form over at most so many of the names."""
    chosen = random.sample(names, random.randint(0, min(most, len(names))))
    return tuple(sorted((name, random.randint(1, p - 1)) for name in chosen))


def fits_plainly(formula, lot):
    if isinstance(formula, str):
        return formula in lot
    return len([place for place in formula[1] if fits_plainly(place, lot)]) >= formula[0]


def names_plainly(formula):
    if isinstance(formula, str):
        return {formula}
    return set().union(*[names_plainly(place) for place in formula[1]])


def lots_plainly(names):
    """All lots of the names, by length and then as tuples."""
    names = sorted(names)
    return [lot for many in range(len(names) + 1) for lot in itertools.combinations(names, many)]


def random_formula(random, names, depth):
    """A formula over some of the names."""
    if depth == 0 or random.random() < 0.3:
        return random.choice(names)
    places = tuple(random_formula(random, names, depth - 1) for _ in range(random.randint(1, 4)))
    return random.randint(1, len(places)), places


def closure_plainly(p, forms, rules):
    """All forms of the closure, and the numbers of the rules that were logged, as point [30] tells."""
    known, log, fired = span(p, forms), [], set()
    while True:
        before = len(fired)
        for at, (needs, gives) in enumerate(rules):
            if at not in fired and all(need in known for need in needs):
                fired.add(at)
                if gives not in known:
                    log.append(at)
                    known = {sum_of(p, [(1, form), (by, gives)]) for form in known for by in range(p)}
        if len(fired) == before:
            return known, log


def random_rules(chance, p, names, most, needs=3):
    """Rules over a few of the names, some without needs and some that give nothing."""
    return [
        (tuple(random_form(chance, p, names, 2) for _ in range(chance.randint(0, needs))),
         random_form(chance, p, names, 2))
        for _ in range(chance.randint(0, most))
    ]


def random_tree(chance, names, depth):
    """A tree of at most so many tuples one in another, whose leaves are names of the list."""
    if len(names) == 1 or depth == 0:
        return names[0]
    cuts = sorted(chance.sample(range(1, len(names)), chance.randint(1, min(5, len(names) - 1))))
    groups = [names[low:high] for low, high in zip([0] + cuts, cuts + [len(names)])]
    return tuple(random_tree(chance, group, depth - 1) for group in groups)


def subspaces(p, names):
    """For each space over the names: a list of forms that spans it."""
    forms = list(all_forms(p, names))
    found = {frozenset([()]): []}
    level = dict(found)
    while level:
        more = {}
        for space, spanning in level.items():
            for form in forms:
                if form not in space:
                    wider = frozenset(sum_of(p, [(1, old), (by, form)]) for old in space for by in range(p))
                    if wider not in found:
                        found[wider] = more[wider] = spanning + [form]
        level = more
    return list(found.values())


def forms_within(p, names, space):
    """The set of the forms over the names that the space has."""
    return {form for form in all_forms(p, names) if form in space}
