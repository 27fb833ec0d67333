"""Live desks: a store under a ban, the programs that were done on it, and what would be."""

from backasked.answers import answers, keeps, values_for
from backasked.checker import first_fault
from backasked.errors import Banned, InvalidProgram, InvalidQuestion, NothingDone, Refused, Unfounded
from backasked.forms import is_integer, is_tuple
from backasked.judging import is_kept
from backasked.papers import SHOWN
from backasked.programs import require_program, run
from backasked.questions import require_question
from backasked.stores import is_fact, require_store

MOST_PROGRAMS = 50


def require_kept(ban, store):
    """Raise Banned if a store does not keep a ban."""
    if keeps(ban, store):
        return
    for index, part in enumerate(ban[1]):
        rows = values_for(part, store)
        if rows:
            raise Banned(index, rows[0])


def facts_without(facts, others):
    """The set of the facts of a store that are not in another one."""
    there = set(others)
    return tuple([fact for fact in facts if fact not in there])


def changes(before, after):
    """The pair (come, gone) of the facts that a store has and had not, and of those that it had and has not."""
    return (facts_without(after, before), facts_without(before, after))


class Desk:
    """A store that keeps a ban, changed by programs that are done in turns or refused."""

    def __init__(self, kinds, ban, *, first=(), tries=300):
        if require_question(kinds, ban)[0] != 0:
            raise InvalidQuestion("arity")
        require_kept(ban, require_store(kinds, first))
        self._kinds = kinds
        self._ban = ban
        self._first = first
        self._tries = tries
        self._store = first
        self._programs = []
        # The store before each turn: taking turns back leads to stores that were there already.
        self._before = []
        self._adopted = []

    def _after(self, program, store):
        """The store after any value that is a program and leads from a store to one that keeps the ban."""
        after = run(require_program(self._kinds, program), store)
        require_kept(self._ban, after)
        return after

    def do(self, program):
        """Do any value that is a program as one turn; return (come, gone); raise InvalidProgram, Banned."""
        before = self._store
        after = self._after(program, before)
        self._programs.append(program)
        self._before.append(before)
        self._store = after
        return changes(before, after)

    def would(self, program):
        """What do would return or raise, without anything being done."""
        return changes(self._store, self._after(program, self._store))

    def ask(self, question):
        """The answers of any value that is a question on the store; raise InvalidQuestion."""
        return answers(require_question(self._kinds, question), self._store)

    def ask_after(self, program, question):
        """The answers on the store after a program, kept or not; raise InvalidProgram, InvalidQuestion."""
        require_program(self._kinds, program)
        require_question(self._kinds, question)
        return answers(question, run(program, self._store))

    def is_safe(self, program):
        """Whether a program keeps the ban on all stores that keep it; raise InvalidProgram, LimitExceeded."""
        require_program(self._kinds, program)
        return is_kept(program, self._ban, self._ban, tries=self._tries)

    def adopt(self, certificate):
        """Adopt the program that any value as a certificate shows to keep the ban; raise Unfounded."""
        fault = first_fault(certificate)
        if fault is not None:
            raise Unfounded(fault)
        verdict, claim, _ = certificate
        program = claim[3]
        if verdict != SHOWN or claim != ("kept", self._kinds, self._ban, program, self._ban):
            raise Unfounded(("other",))
        if program not in self._adopted:
            self._adopted.append(program)

    def adopted(self):
        """The tuple of the adopted programs, in the order of adopting."""
        return tuple(self._adopted)

    def store(self):
        """The store as it is now."""
        return self._store

    def ban(self):
        """The ban that the store keeps."""
        return self._ban

    def kinds(self):
        """The kinds of the facts."""
        return self._kinds

    def turns(self):
        """The tuple of the programs that were done and not taken back."""
        return tuple(self._programs)

    def undo(self):
        """Take the last turn back; raise NothingDone."""
        # Without turns this would be -1, which is no number of turns to go back to.
        self.back_to(len(self._programs) - 1)

    def back_to(self, count):
        """Take turns back until so many are left; raise NothingDone for any value that is no such number."""
        if not is_integer(count, 0, len(self._programs)):
            raise NothingDone()
        if count < len(self._programs):
            self._store = self._before[count]
            self._programs = self._programs[:count]
            self._before = self._before[:count]

    def twin(self):
        """Another desk that is as this one is now."""
        other = Desk(self._kinds, self._ban, first=self._first, tries=self._tries)
        other._store = self._store
        other._programs = list(self._programs)
        other._before = list(self._before)
        other._adopted = list(self._adopted)
        return other

    def __contains__(self, x):
        """Whether any value is a fact of the store."""
        return is_fact(self._kinds, x) and x in self._store

    def __eq__(self, other):
        """Whether any value is a desk with equal kinds, ban and store."""
        if not isinstance(other, Desk):
            return False
        return self._kinds == other._kinds and self._ban == other._ban and self._store == other._store

    def __len__(self):
        """The number of facts of the store."""
        return len(self._store)

    def __iadd__(self, other):
        """Do a tuple of programs, one turn each, or none of them; raise Refused."""
        if not is_tuple(other, 0, MOST_PROGRAMS):
            raise Refused(-1)
        now = self._store
        before = []
        for index, program in enumerate(other):
            before.append(now)
            try:
                now = self._after(program, now)
            except (InvalidProgram, Banned):
                raise Refused(index) from None
        self._programs = self._programs + list(other)
        self._before = self._before + before
        self._store = now
        return self
