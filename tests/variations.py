"""What the tests make of values: such ones with one part exchanged, at each depth."""

# One value of each kind that "any value" tells of, none of which is a tuple or an integer.
OTHER_VALUES = (None, True, False, "", "ab", "arity", [], [0, [1]], {}, {0: (0, (1,))}, [(0, (1,))])


def places(value, path=()):
    """The path to each part of a nested tuple, the tuple itself first."""
    yield path
    if isinstance(value, tuple):
        for index, part in enumerate(value):
            yield from places(part, (*path, index))


def at(value, path):
    """The part to which a path leads."""
    for index in path:
        value = value[index]
    return value


def exchanged(value, path, other):
    """A nested tuple with another value in the place of one part."""
    if not path:
        return other
    index = path[0]
    return (*value[:index], exchanged(value[index], path[1:], other), *value[index + 1:])


def same_but_wrong(value):
    """Pairs (path, changed value): 0 and 1 as booleans, tuples as lists, each alone, at each depth."""
    for path in places(value):
        part = at(value, path)
        if isinstance(part, tuple):
            yield path, exchanged(value, path, list(part))
        elif part in (0, 1):
            yield path, exchanged(value, path, part == 1)


def of_other_kinds(value):
    """Pairs (path, changed value): at each depth each part exchanged for values of other kinds."""
    for path in places(value):
        for other in OTHER_VALUES:
            yield path, exchanged(value, path, other)
        part = at(value, path)
        other = 0 if isinstance(part, tuple) else (part,)
        yield path, exchanged(value, path, other)


def deep(depth):
    """A tuple nested so deep."""
    value = ()
    for _ in range(depth):
        value = (value,)
    return value


def shape(value):
    """A value with the kind of each of its parts beside it: unlike for 1 and True, (1,) and [1]."""
    if isinstance(value, (tuple, list)):
        return type(value), [shape(part) for part in value]
    if isinstance(value, dict):
        return dict, [(shape(key), shape(value[key])) for key in value]
    return type(value), value


class Unchanged:
    """For `with Unchanged(test, a, b):` - the arguments are the same afterwards as before."""

    def __init__(self, test, *arguments):
        self.test = test
        self.arguments = arguments
        self.before = [shape(value) for value in arguments]

    def __enter__(self):
        return self

    def __exit__(self, *told):
        self.test.assertEqual([shape(value) for value in self.arguments], self.before)
        return False
