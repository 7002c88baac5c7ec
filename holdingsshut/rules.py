"""Rules: what opens under them, and the order in which they fire."""

from holdingsshut.forms import form_names, renamed
from holdingsshut.spaces import Space


def close(p, rules):
    """The closure of no forms; its accepted forms are what the logged rules give."""
    return close_on(p, [], rules)


def close_on(p, forms, rules):
    """The closure of a list of forms."""
    space = Space.over(p, forms)
    fire(space, rules)
    return space


def fire_log(p, rules):
    """The numbers of the logged rules, in the order in which they fired."""
    return fire(Space(p), rules)


def fire(space, rules):
    """Close the space under the rules; the numbers of the logged rules, as they fired."""
    log = []
    waiting = list(range(len(rules)))
    fires = True
    while fires:
        fires = False
        unfired = []
        for at in list(waiting):
            needs, gives = rules[at]
            if not is_met(space, needs):
                unfired.append(at)
                continue
            fires = True
            if space.add(gives):
                log.append(at)
        waiting = unfired
    return log


def is_met(space, needs):
    """True if the space has all the needs."""
    return all(need in space for need in needs)


def unmet(space, rules):
    """The numbers of the rules all of whose needs the space has and whose gives it lacks."""
    return [at for at, (needs, gives) in enumerate(rules) if is_met(space, needs) and gives not in space]


def names_in(forms):
    """The names of the forms, one after the other."""
    return [name for f in forms for name in form_names(f)]


def rule_names(rule):
    """The names of what a rule needs, then of what it gives."""
    needs, gives = rule
    return names_in(needs) + names_in([gives])


def renamed_rule(p, rule, table):
    """The rule with all names that the dict has replaced at once."""
    needs, gives = rule
    return tuple([renamed(p, need, table) for need in needs]), renamed(p, gives, table)
