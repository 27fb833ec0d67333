"""The texts of questions and programs: points 2 and 19, and the interface of texts.py."""

import unittest

from builders import DROP, KINDS, LOOPS, SWAP, ban_of, part_of, put, take, turn
from models import Draws
from variations import Unchanged, shape

from backasked.errors import InvalidProgram, InvalidQuestion, ParseError
from backasked.programs import require_program
from backasked.questions import no_ban, require_question
from backasked.texts import format_program, format_question, parse_program, parse_question

# Pairs of a question and its text.
QUESTIONS = (
    (no_ban(), "arity 0\n"),
    ((1, ()), "arity 1\n"),
    ((2, ()), "arity 2\n"),
    ((0, (part_of(),)), "arity 0\n()\n"),
    ((1, (part_of(head=(3,)),)), "arity 1\n(3)\n"),
    ((2, (part_of(head=(0, 9)),)), "arity 2\n(0,9)\n"),
    ((0, (part_of(unlike=((3, 4), (3, 5))),)), "arity 0\n() unless 3 is 4 unless 3 is 5\n"),
    (ban_of((2, ())), "arity 0\n() if k2()\n"),
    (ban_of((0, (-1, -1))), "arity 0\n() if k0(x1,x1)\n"),
    ((1, (part_of((0, (-1, -2)), (0, (-2, 3)), head=(-1,), unlike=((-2, 5),)),)),
     "arity 1\n(x1) if k0(x1,x2) and k0(x2,3) unless x2 is 5\n"),
    ((2, (part_of((0, (-8, -7)), head=(-7, 0), unlike=((-8, -7), (-8, 9))), part_of((1, (-3,)), (2, ()), (2, ()), head=(-3, -3)))),
     "arity 2\n(x7,0) if k0(x8,x7) unless x8 is x7 unless x8 is 9\n(x3,x3) if k1(x3) and k2() and k2()\n"),
)
# Pairs of a program and its text.
PROGRAMS = (
    ((), ""),
    ((put((2, ())),), "put k2()\n"),
    ((put((0, (3, 4)), unlike=((5, 6),)),), "put k0(3,4) unless 5 is 6\n"),
    ((LOOPS,), "put k0(x1,x1) if k1(x1)\n"),
    ((put((1, (-4,)), (0, (-4, -1)), (2, ()), unlike=((-4, -1), (-1, 0))),),
     "put k1(x4) if k0(x4,x1) and k2() unless x4 is x1 unless x1 is 0\n"),
    ((take((2, ())),), "take k2()\n"),
    ((take((0, (-1, -2)), (-2, -1), (3, 4)),), "take k0(x1,x2) unless x2 is x1 unless 3 is 4\n"),
    ((turn((2, ()), ()),), "turn k2() to ()\n"),
    ((turn((1, (-2,)), (7,), (-2, 7)),), "turn k1(x2) to (7) unless x2 is 7\n"),
    ((SWAP, DROP), "turn k0(x1,x2) to (x2,x1) unless x2 is 3\ntake k0(x1,3)\n"),
    ((LOOPS, DROP, SWAP, LOOPS),
     "put k0(x1,x1) if k1(x1)\ntake k0(x1,3)\nturn k0(x1,x2) to (x2,x1) unless x2 is 3\nput k0(x1,x1) if k1(x1)\n"),
)
SIGNS = "\n\t" + "".join(chr(code) for code in range(ord(" "), ord("~") + 1))


class TextCase(unittest.TestCase):
    def assert_no_question(self, line, text, kinds=KINDS):
        with Unchanged(self, text), self.assertRaises(ParseError) as caught:
            parse_question(kinds, text)
        self.assertEqual(shape(caught.exception.line), shape(line), text[:200])

    def assert_no_program(self, line, text, kinds=KINDS):
        with Unchanged(self, text), self.assertRaises(ParseError) as caught:
            parse_program(kinds, text)
        self.assertEqual(shape(caught.exception.line), shape(line), text[:200])

    def assert_no_part(self, *lines, arity=0, kinds=KINDS):
        """None of these is the line of a part."""
        for line in lines:
            self.assert_no_question(1, f"arity {arity}\n{line}\n", kinds)

    def assert_no_deed(self, *lines, kinds=KINDS):
        for line in lines:
            self.assert_no_program(0, f"{line}\n", kinds)
            self.assert_no_program(1, f"take k2()\n{line}\n", kinds)


class FormatTest(TextCase):
    def test_example_of_the_interface(self):
        told = format_program((("turn", (0, (-1, -2)), ((-2, 3),), (-2, -1)), ("take", (0, (-1, 3)), ())))
        self.assertEqual(told, "turn k0(x1,x2) to (x2,x1) unless x2 is 3\ntake k0(x1,3)\n")

    def test_questions(self):
        for question, text in QUESTIONS:
            require_question(KINDS, question)
            with Unchanged(self, question):
                self.assertEqual(shape(format_question(question)), shape(text))
            self.assertEqual(shape(parse_question(KINDS, text)), shape(question))

    def test_programs(self):
        for program, text in PROGRAMS:
            require_program(KINDS, program)
            with Unchanged(self, program):
                self.assertEqual(shape(format_program(program)), shape(text))
            self.assertEqual(shape(parse_program(KINDS, text)), shape(program))

    def test_each_term(self):
        for term in range(-8, 10):
            told = str(term) if term >= 0 else f"x{-term}"
            question = (0, (part_of((1, (term,))),))
            self.assertEqual(format_question(question), f"arity 0\n() if k1({told})\n")
            self.assertEqual(parse_question(KINDS, f"arity 0\n() if k1({told})\n"), question)
            program = (put((1, (term,))),) if term >= 0 else (take((1, (term,))),)
            text = f"{program[0][0]} k1({told})\n"
            self.assertEqual(format_program(program), text)
            if term >= -4:
                self.assertEqual(parse_program(KINDS, text), program)
            else:
                self.assert_no_program(0, text)

    def test_each_kind(self):
        kinds = (0, 0, 0, 0)
        for kind in range(4):
            question, text = ban_of((kind, ())), f"arity 0\n() if k{kind}()\n"
            self.assertEqual((format_question(question), parse_question(kinds, text)), (text, question))
            self.assert_no_question(1, text, kinds[:kind] or (1,))
            program, text = (put((kind, ())),), f"put k{kind}()\n"
            self.assertEqual((format_program(program), parse_program(kinds, text)), (text, program))
            self.assert_no_program(0, text, kinds[:kind] or (1,))

    def test_arguments_by_name(self):
        self.assertEqual(parse_question(text=format_question(question=no_ban()), kinds=KINDS), no_ban())
        self.assertEqual(parse_program(text=format_program(program=(LOOPS,)), kinds=KINDS), (LOOPS,))


class FirstLineTest(TextCase):
    def test_no_signs(self):
        self.assert_no_question(0, "")
        self.assertEqual(shape(parse_program(KINDS, "")), shape(()))

    def test_the_line_of_the_arity(self):
        for line in ("arity", "arity ", "arity 3", "arity -1", "arity 10", "arity 00", "arity  0", " arity 0", "arity 0 ",
                     "Arity 0", "arity\t0", "arity0", "arity x1", "arity +1", "arity 1.0", "()", " ", "\t", "arity 0\t"):
            self.assert_no_question(0, line + "\n")
            self.assert_no_question(0, line)
            self.assert_no_question(0, line + "\n()\n")
            self.assert_no_question(0, line + "\nnothing")
        for text in ("\n", "\n\n", "\narity 0\n", "\n()\n"):
            self.assert_no_question(0, text)

    def test_line_feeds(self):
        self.assert_no_question(0, "arity 0")
        self.assert_no_question(1, "arity 0\n()")
        self.assert_no_question(1, "arity 0\n\n")
        self.assert_no_question(1, "arity 0\n\n()\n")
        self.assert_no_question(2, "arity 0\n()\n\n")
        self.assert_no_question(2, "arity 1\n(3)\n(4)")
        # A wrong line comes before the lacking line feed.
        self.assert_no_question(1, "arity 1\n(4)x\n(5)")
        self.assert_no_question(2, "arity 1\n(4)\n(3)")
        self.assert_no_program(0, "take k2()")
        self.assert_no_program(0, "\n")
        self.assert_no_program(1, "take k2()\n\n")
        self.assert_no_program(1, "take k2()\ntake k2()")
        self.assert_no_program(0, "take\ntake k2()")
        self.assert_no_program(0, " ")
        self.assert_no_program(0, "\t")


class PartLineTest(TextCase):
    def test_heads(self):
        self.assert_no_part("", " ", "(", ")", "()()", "( )", "() ", " ()", "(3)", "(3,4)", "[]", "(,)", "()\t")
        self.assert_no_part("()", "(3,)", "(,3)", "(3,4)", "(x1)", "3", "(33)", "(-1)", "(a)", "( 3)", "(3 )", arity=1)
        self.assert_no_part("()", "(3)", "(3, 4)", "(3,4,5)", "(3 4)", "(3;4)", "(x1,3)", "(x1,x1)", arity=2)
        self.assert_no_part("(x2) if k1(x1)", "(x1) if k2()", "(x1) unless 3 is 4", arity=1)

    def test_bodies(self):
        self.assert_no_part(
            "() if", "() if ", "() if  k2()", "()  if k2()", "()if k2()", "() if k2() ", "() If k2()", "() if k2() if k2()",
            "() if k2()and k2()", "() if k2() and", "() if k2() and ", "() if k2() and  k2()", "() if and k2()",
            "() if k2(), k2()", "() if k2", "() if 2()", "() if k()", "() if K2()", "() if k 2()", "() if k2 ()", "() if k02()",
            "() if k3()", "() if k4()", "() if k-1()", "() if k2(3)", "() if k1()", "() if k1(3,4)", "() if k0(3)",
            "() if k0(3,4", "() if k03,4)", "() if k0(3,4))", "() if k0((3,4))", "() if k0(3, 4)", "() if k1(x0)",
            "() if k1(x9)", "() if k1(x10)", "() if k1(x)", "() if k1(X1)", "() if k1(-1)", "() if k1(10)", "() if k1(x01)",
            "() if k1(03)", "() and k2()", "if k2()", "k2()", "() k2()", "() put k2()", "() if put k2()")

    def test_at_most_six_atoms(self):
        six = " and ".join(["k2()"] * 6)
        self.assertEqual(parse_question(KINDS, f"arity 0\n() if {six}\n"), ban_of(*[(2, ())] * 6))
        self.assert_no_part(f"() if {six} and k2()")

    def test_pairs(self):
        self.assert_no_part(
            "() unless", "() unless ", "() unless 3", "() unless 3 is", "() unless 3 is ", "() unless  is 4",
            "() unless 3 is 3", "() unless 4 is 3", "() unless 3 is x1", "() unless x1 is 3", "() unless 3  is 4",
            "() unless 3 is 4 ", "() unless 3 is 4 is 5", "() unless 3 is not 4", "() unless 3 is 4 and 4 is 5",
            "() unless 3 is 4, 4 is 5", "() unless 3 is 4 unless 3 is 4", "() unless 3 is 5 unless 3 is 4",
            "()unless 3 is 4", "() unless 3 is 4unless 3 is 5", "() unless 3 is 10", "() unless 3 Is 4", "() unless 3 = 4",
            "() unless 3 is 4 if k2()", "() unless (3) is 4", "unless 3 is 4", "() if unless 3 is 4")
        self.assert_no_part(
            "() if k0(x1,x2) unless x1 is x2", "() if k0(x1,x2) unless x2 is x2", "() if k0(x1,x2) unless x3 is x2",
            "() if k0(x1,x2) unless 3 is x2", "() if k0(x1,x2) unless x1 is 3 unless x2 is 3",
            "() if k0(x1,x2) unless x2 is x1 unless x2 is x1")

    def test_parts_ascend(self):
        lines = ["() if k0(x2,x2)", "() if k0(x1,x2)", "() if k0(x1,x1)", "() if k0(x1,3)", "() if k2()"]
        parts = [parse_question(KINDS, f"arity 0\n{line}\n")[1][0] for line in lines]
        self.assertEqual(parts, sorted(parts))
        text = "arity 0\n" + "".join(f"{line}\n" for line in lines)
        self.assertEqual(parse_question(KINDS, text), (0, tuple(parts)))
        for index in range(4):
            changed = lines[:index] + [lines[index + 1], lines[index]] + lines[index + 2:]
            self.assert_no_question(index + 2, "arity 0\n" + "".join(f"{line}\n" for line in changed))
            changed = lines[:index + 1] + lines[index:]
            self.assert_no_question(index + 2, "arity 0\n" + "".join(f"{line}\n" for line in changed))
        # The first wrong line is told, whichever way it is wrong.
        self.assert_no_question(3, "arity 0\n" + "\n".join([*lines[:2], "() of", lines[0], "() of"]) + "\n")
        self.assert_no_question(2, "arity 0\n" + "\n".join([lines[1], lines[0], "() of"]) + "\n")
        self.assert_no_question(1, "arity 0\n() if k2()x\n()\n")

    def test_a_thousand_parts_and_one_more(self):
        parts = [part_of((0, (c, d)), head=(a, b)) for a in range(10) for b in range(10) for c in range(10) for d in range(2)]
        for many in (999, 1000):
            question = (2, tuple(parts[:many]))
            require_question(KINDS, question)
            text = format_question(question)
            self.assertLess(len(text), 30000)
            self.assertEqual(parse_question(KINDS, text), question)
            self.assert_no_question(many, text[:-1])
            self.assert_no_question(many + 1, text + "x")
        for many in (1001, 1002, 1700):
            self.assert_no_question(1001, format_question((2, tuple(parts[:many]))))
        self.assert_no_question(1001, format_question((2, tuple(parts[:1000]))) + "nothing\n")
        self.assert_no_question(1001, format_question((2, tuple(parts[:1000]))) + "(9,9) if k0(9,9)")
        self.assert_no_question(1000, format_question((2, tuple(parts[:999]))) + "(0,0)\n(9,9) if k0(9,9)\n")


class DeedLineTest(TextCase):
    def test_words(self):
        self.assert_no_deed(
            "", " ", "k2()", "put", "put ", "take", "take ", "turn", "turn ", "Put k2()", "putk2()", "put  k2()", " put k2()",
            "drop k2()", "arity 0", "()", "put\tk2()", "take k2() ", "put k2()\t", "swap k2() to ()")

    def test_puts(self):
        self.assert_no_deed(
            "put k2() if", "put k2() if ", "put ()", "put k2(3)", "put k1(x1)", "put k1(x1) if k2()", "put k1(x5) if k1(x5)",
            "put k3()", "put k2() if k2() and k2() and k2()", "put k2() to ()", "put k2() if k1(x1) unless x2 is 3",
            "put k2() unless 3 is 4 unless 3 is 5 unless 3 is 6", "put k2() unless 4 is 3", "put k2() unless 3 is 4 if k2()",
            "put k2() and k2()", "put k2() if k2() if k2()", "put k2() if k2() if k2() and k2()", "put k1() if k1(x1)")

    def test_takes(self):
        self.assert_no_deed(
            "take k2() if k2()", "take k2() to ()", "take k1(x5)", "take k1(x1,x2)", "take k1(x1) unless x2 is 3",
            "take k1(x1) unless 3 is x1", "take k1(x1) unless x1 is 3 unless x1 is 4 unless x1 is 5", "take ()",
            "take k1(x1) unless x1 is 4 unless x1 is 3", "take k1(x1) and k1(x1)", "take k1(x1) unless x1 is 3 unless x1 is 3")

    def test_turns(self):
        self.assert_no_deed(
            "turn k2()", "turn k2() to", "turn k2() to ", "turn k2() ()", "turn k2() to (3)", "turn k1(x1) to ()",
            "turn k1(x1) to (x2)", "turn k1(x1) to (3,4)", "turn k1(x1) to 3", "turn k1(x1) to k1(3)", "turn k1(x1)to (3)",
            "turn k1(x1) unless x1 is 3 to (3)", "turn k1(x1) to (3) unless x2 is 3", "turn k1(x1) to (3) to (3)",
            "turn k1(x1) to (3) if k2()", "turn k1(x5) to (3)", "turn k1(x1) to (x5)", "turn k1(x1) To (3)",
            "turn k1(x1) to (3) unless x1 is 3 unless x1 is 4 unless x1 is 5")

    def test_four_deeds_and_five(self):
        line = "take k2()\n"
        self.assertEqual(parse_program(KINDS, line * 4), (take((2, ())),) * 4)
        for many in (5, 6, 3000):
            self.assert_no_program(4, line * many)
        self.assert_no_program(4, line * 4 + "nothing")
        self.assert_no_program(4, line * 4 + "\n")
        self.assert_no_program(3, line * 3 + "nothing\n" + line)
        self.assert_no_program(3, (line * 4)[:-1])

    def test_deeds_need_not_ascend(self):
        self.assertEqual(len(parse_program(KINDS, "take k2()\nput k2()\ntake k2()\n")), 3)


class RoundTest(TextCase):
    """What is read is what was written, and a text that is read is the text of what is read."""

    def draw_question(self, draws):
        return draws.question(KINDS, draws.below(3), (-1, -2, -8, 0, 9), 6, 4)

    def test_written_and_read(self):
        draws = Draws(121)
        for _ in range(400):
            question, program = self.draw_question(draws), draws.program(KINDS, (-1, -2, -4, 0, 9), 4)
            self.assertEqual(shape(parse_question(KINDS, format_question(question))), shape(question))
            self.assertEqual(shape(parse_program(KINDS, format_program(program))), shape(program))

    def changed(self, draws, text):
        """The text with a sign, a word or a line put in, left out, exchanged or cut off."""
        words = ("if", "and", "unless", "is", "to", "put", "take", "turn", "arity", "k0", "x1", "3", "()", "(x1)", "k2()")
        way, at = draws.below(8), draws.below(len(text) + 1)
        if way < 3:
            return text[:at] + (draws.one_of(SIGNS) if way else "") + text[at + way % 2 + (not way):]
        if way < 6:
            pieces = text.split(" ")
            at = draws.below(len(pieces))
            return " ".join(pieces[:at] + ([draws.one_of(words)] if way > 3 else []) + pieces[at + way % 2:])
        if way < 7:
            return text[:at]
        lines = text.split("\n")
        at, other = draws.below(len(lines)), draws.below(len(lines))
        lines[at], lines[other] = lines[other], draws.one_of((lines[at], lines[other]))
        return "\n".join(lines)

    def lines_read(self, lines, kinds, kind):
        """How many lines from the first one on are read as the text of a question, or of a program."""
        parse = parse_question if kind == "question" else parse_program
        for many in range(len(lines), 0, -1):
            try:
                parse(kinds, "".join(f"{line}\n" for line in lines[:many]))
                return many
            except ParseError:
                pass
        return 0

    def test_changed_texts(self):
        draws = Draws(122)
        counts = {"read": 0, "wrong": 0}
        for _ in range(3000):
            kind = draws.one_of(("question", "program"))
            if kind == "question":
                parse, write, require = parse_question, format_question, require_question
                text = write(self.draw_question(draws))
            else:
                parse, write, require = parse_program, format_program, require_program
                text = write(draws.program(KINDS, (-1, -2, -4, 0, 9), 4))
            for _ in range(draws.one_of((1, 1, 2))):
                text = self.changed(draws, text)
            try:
                told = parse(KINDS, text)
            except ParseError as error:
                counts["wrong"] += 1
                # The lines before the one told are right ones, and it is wrong, or lacks its line feed.
                lines = text.split("\n")
                if not lines[-1]:
                    lines.pop()
                right = self.lines_read(lines, KINDS, kind)
                if right == len(lines) and text:
                    self.assertFalse(text.endswith("\n"))
                    right = text.count("\n")
                self.assertEqual(shape(error.line), shape(right), text)
            else:
                counts["read"] += 1
                self.assertEqual(write(require(KINDS, told)), text)
        self.assertGreater(min(counts.values()), 60, counts)

    def test_right_texts_for_other_kinds(self):
        draws = Draws(123)
        for _ in range(200):
            question, program = self.draw_question(draws), draws.program(KINDS, (-1, -2, 0), 3)
            for kinds in ((2, 1), (1, 1, 0), (2, 1, 1), (0,), (2, 1, 0, 2)):
                for value, require, write, parse, error in (
                        (question, require_question, format_question, parse_question, InvalidQuestion),
                        (program, require_program, format_program, parse_program, InvalidProgram)):
                    try:
                        require(kinds, value)
                    except error:
                        with self.assertRaises(ParseError):
                            parse(kinds, write(value))
                    else:
                        self.assertEqual(parse(kinds, write(value)), value)


if __name__ == "__main__":
    unittest.main()
