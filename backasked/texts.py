"""The texts of questions and programs, written and read."""

from backasked.errors import ParseError
from backasked.forms import ascends
from backasked.programs import MOST_DEEDS, is_deed
from backasked.questions import MOST_PARTS, is_part

ARITIES = {"arity 0": 0, "arity 1": 1, "arity 2": 2}
KINDS = {"k0": 0, "k1": 1, "k2": 2, "k3": 3}
TERMS = {
    "x8": -8, "x7": -7, "x6": -6, "x5": -5, "x4": -4, "x3": -3, "x2": -2, "x1": -1,
    "0": 0, "1": 1, "2": 2, "3": 3, "4": 4, "5": 5, "6": 6, "7": 7, "8": 8, "9": 9,
}


def term_text(term):
    """The text of a term."""
    return str(term) if term >= 0 else f"x{-term}"


def terms_text(terms):
    """The text of a tuple of terms, in brackets."""
    told = ",".join([term_text(term) for term in terms])
    return f"({told})"


def atom_text(atom):
    """The text of an atom."""
    kind, terms = atom
    return f"k{kind}{terms_text(terms)}"


def pairs_text(unlike):
    """The text of a set of pairs, with a blank before it."""
    return "".join([f" unless {term_text(one)} is {term_text(other)}" for one, other in unlike])


def rest_text(body, unlike):
    """The text of a body and pairs, with a blank before it."""
    told = " and ".join([atom_text(atom) for atom in body])
    return f" if {told}{pairs_text(unlike)}" if body else pairs_text(unlike)


def part_text(part):
    """The text of a part of a question."""
    head, body, unlike = part
    return terms_text(head) + rest_text(body, unlike)


def deed_text(deed):
    """The text of a deed."""
    if deed[0] == "put":
        _, atom, body, unlike = deed
        return f"put {atom_text(atom)}{rest_text(body, unlike)}"
    if deed[0] == "take":
        _, atom, unlike = deed
        return f"take {atom_text(atom)}{pairs_text(unlike)}"
    _, atom, unlike, terms = deed
    return f"turn {atom_text(atom)} to {terms_text(terms)}{pairs_text(unlike)}"


def format_question(question):
    """The text of a question."""
    arity, parts = question
    return "".join([f"{line}\n" for line in [f"arity {arity}", *[part_text(part) for part in parts]]])


def format_program(program):
    """The text of a program."""
    return "".join([f"{deed_text(deed)}\n" for deed in program])


# What is read below need not be right, and has None where a word is none: it is looked at as a whole, and it is what
# the line tells only if its own text is this line.
def read_terms(text):
    """The terms that a text in brackets may tell."""
    inner = text[1:-1]
    return tuple([TERMS.get(word) for word in inner.split(",")]) if inner else ()


def read_atom(text):
    """The atom that a text may tell."""
    return (KINDS.get(text[:2]), read_terms(text[2:]))


def read_atoms(text):
    """The atoms that a text may tell."""
    return tuple([read_atom(word) for word in text.split(" and ")]) if text else ()


def read_pairs(texts):
    """The pairs that a list of texts may tell."""
    return tuple([tuple([TERMS.get(word) for word in text.split(" is ")]) for text in texts])


def read_part(line):
    """The part that a line may tell."""
    front, *pairs = line.split(" unless ")
    head, _, body = front.partition(" if ")
    return (read_terms(head), read_atoms(body), read_pairs(pairs))


def read_deed(line):
    """The deed that a line may tell."""
    word, _, told = line.partition(" ")
    front, *pairs = told.split(" unless ")
    unlike = read_pairs(pairs)
    if word == "put":
        atom, _, body = front.partition(" if ")
        return (word, read_atom(atom), read_atoms(body), unlike)
    if word == "take":
        return (word, read_atom(front), unlike)
    atom, _, terms = front.partition(" to ")
    return (word, read_atom(atom), unlike, read_terms(terms))


def lines_of(text):
    """The list of the lines of a text, without their line feeds; the last one may lack it."""
    lines = text.split("\n")
    return lines if lines[-1] else lines[:-1]


def require_end(text):
    """Raise ParseError if the last line of a text lacks its line feed."""
    if text and not text.endswith("\n"):
        raise ParseError(text.count("\n"))


def parse_question(kinds, text):
    """The question that a text tells; raise ParseError for any other text."""
    lines = lines_of(text)
    if not lines or lines[0] not in ARITIES:
        raise ParseError(0)
    arity = ARITIES[lines[0]]
    parts = []
    for line in lines[1:]:
        part = read_part(line)
        is_right = len(parts) < MOST_PARTS and is_part(kinds, arity, part) and part_text(part) == line
        parts.append(part)
        if not is_right or not ascends(parts, len(parts) - 1):
            raise ParseError(len(parts))
    require_end(text)
    return (arity, tuple(parts))


def parse_program(kinds, text):
    """The program that a text tells; raise ParseError for any other text."""
    deeds = []
    for line in lines_of(text):
        deed = read_deed(line)
        if len(deeds) == MOST_DEEDS or not is_deed(kinds, deed) or deed_text(deed) != line:
            raise ParseError(len(deeds))
        deeds.append(deed)
    require_end(text)
    return tuple(deeds)
