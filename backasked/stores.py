"""Things, facts and stores."""

from backasked.errors import InvalidStore
from backasked.forms import ascends, is_integer, is_tuple

GREATEST_THING = 29
MOST_FACTS = 3600


def is_fact(kinds, value):
    """Whether any value is a fact of the kinds."""
    if not is_tuple(value, 2, 2):
        return False
    kind, things = value
    if not is_integer(kind, 0, len(kinds) - 1):
        return False
    many = kinds[kind]
    return is_tuple(things, many, many) and all([is_integer(thing, 0, GREATEST_THING) for thing in things])


def require_store(kinds, value):
    """Return any value that is a store of the kinds; raise InvalidStore for any other one."""
    if not is_tuple(value, 0, MOST_FACTS):
        raise InvalidStore(None)
    for index, fact in enumerate(value):
        if not is_fact(kinds, fact) or not ascends(value, index):
            raise InvalidStore(index)
    return value


def are_among(facts, others):
    """Whether all facts of a store are among those of another one."""
    there = set(others)
    return all([fact in there for fact in facts])
