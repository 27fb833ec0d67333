"""Whether any value is a store, a question, a ban or a program for kinds."""

from backasked.errors import InvalidProgram, InvalidQuestion, InvalidStore
from backasked.programs import require_program
from backasked.questions import require_question
from backasked.stores import MOST_FACTS, require_store


def is_store(kinds, value, most=MOST_FACTS):
    """Whether any value is a store of the kinds of at most so many facts."""
    try:
        return len(require_store(kinds, value)) <= most
    except InvalidStore:
        return False


def is_question(kinds, value):
    """Whether any value is a question for the kinds."""
    try:
        require_question(kinds, value)
    except InvalidQuestion:
        return False
    return True


def is_ban(kinds, value):
    """Whether any value is a ban for the kinds."""
    return is_question(kinds, value) and value[0] == 0


def is_program(kinds, value):
    """Whether any value is a program for the kinds."""
    try:
        require_program(kinds, value)
    except InvalidProgram:
        return False
    return True
