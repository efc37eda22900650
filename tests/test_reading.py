"""[A6], [A7] and what text.py reads: tokens, bad signs, each form, and where texts are refused."""

import unittest

from changewise.errors import InvalidKind, InvalidSheet, InvalidText
from changewise.text import read_kind, read_sheet, read_term, read_value
from tests.cases import Case, nested, odd_things
from tests.grammar import WORDS

UNIT, NUM = ("unit",), ("num",)
BAG, STEP, PAIR, SIDES = ("bag", NUM), ("fun", NUM, NUM), ("pair", NUM, NUM), ("either", NUM, UNIT)
X, Y, ONE, TWO, THREE = ("name", "x"), ("name", "y"), ("number", 1), ("number", 2), ("number", 3)
MANY = "1234567890" * 40
READS = (read_kind, read_term, read_sheet)


class ReadingCase(Case):

    def assert_refused(self, read, text, line, column):
        with self.subTest(text[:60]):
            with self.assertRaises(InvalidText) as caught:
                read(text)
            self.assertEqual((caught.exception.line, caught.exception.column), (line, column))

    def assert_bad(self, read, rows):
        """Each text is refused in its first line, at the column told."""
        for text, column in rows:
            self.assert_refused(read, text, 1, column)


class TokensTest(ReadingCase):

    def test_names_as_long_as_can_be(self):
        for name in ("a", "abcdefgh", "a1234567", "x'", "abcdefgh'", "abcdefgh'12345678", "x'0", "x'00000000", "fnn",
                "in1"):
            self.assertEqual(read_term(name), ("name", name))
            self.assertEqual(read_term(f" {name} #"), ("name", name))

    def test_numbers(self):
        for text in ("0", "1", "-1", "10", "-10", "907", MANY, "-" + MANY):
            self.assert_same(read_term(text), ("number", int(text)))
            self.assert_same(read_value(NUM, text), int(text))

    def test_a_minus_belongs_to_the_figure_behind_it(self):
        for text, term in (
                ("-3", ("number", -3)), ("- 3", ("minus", THREE)), ("-(3)", ("minus", THREE)),
                ("--3", ("minus", ("number", -3))),
                ("- -3", ("minus", ("number", -3))), ("---3", ("minus", ("minus", ("number", -3)))),
                ("-x", ("minus", X)),
                ("-\n3", ("minus", THREE)), ("-#\n3", ("minus", THREE)), ("1+-3", ("plus", ONE, ("number", -3))),
                ("1*-3", ("times", ONE, ("number", -3))), ("1<-3", ("is", "<", ONE, ("number", -3))),
                ("- 0", ("minus", ("number", 0))),
                ("-3(x)", ("call", ("number", -3), X)), ("x(-3)", ("call", X, ("number", -3)))):
            with self.subTest(text):
                self.assert_same(read_term(text), term)
        self.assert_bad(read_term, (("x-3", 2), ("x -3", 3), ("1-3", 2), ("x - 3", 3), ("3 -3", 3)))

    def test_the_longest_token_is_taken(self):
        self.assertEqual(read_term("x<=y"), ("is", "<=", X, Y))
        self.assertEqual(read_term("x==y"), ("is", "==", X, Y))
        self.assertEqual(read_kind("num->num"), STEP)
        self.assertEqual(read_term("lets"), ("name", "lets"))
        self.assertEqual(read_term("fn x:num->num.x"), ("fn", "x", STEP, X))
        self.assertEqual(read_term("x'1(y)"), ("call", ("name", "x'1"), Y))
        # "<" and "==", not "<=" and "=", would be none either; the place tells which tokens they were.
        self.assert_bad(read_term, (("x<==y", 4), ("x===y", 4), ("x< =y", 4), ("x= =y", 2), ("let x==1 in x", 6),
                ("x - >y", 3)))
        self.assert_bad(read_kind, (("num- >num", 4), ("num-num", 4), ("num->->num", 6)))

    def test_a_letter_behind_a_marked_name_begins_another_token(self):
        self.assert_bad(read_term, (("x'y", 3), ("x'1y", 4), ("x'12345678y", 11), ("x'in", 3)))
        self.assertEqual(read_term("let x=y'in x"), ("let", "x", ("name", "y'"), X))
        self.assertEqual(read_term("let x=y'1in x"), ("let", "x", ("name", "y'1"), X))
        self.assertEqual(read_term("case x'{x.x;y'.y}"), ("case", ("name", "x'"), "x", X, "y'", Y))

    def test_words_need_no_blanks_around_them_but_towards_letters(self):
        self.assertEqual(read_term("let x=(1)in(x)"), ("let", "x", ONE, X))
        self.assertEqual(read_term("case(x){x.1;y.2}"), ("case", X, "x", ONE, "y", TWO))
        self.assertEqual(read_kind("bag(num)"), BAG)
        self.assertEqual(read_kind("bag num"), BAG)
        self.assert_bad(read_kind, (("bagnum", 1), ("numnum", 1), ("num1", 1), ("unit2", 1)))
        self.assert_bad(read_term, (("fnx:num.x", 4), ("letx=1 in x", 5), ("case1{x.1;y.2}", 6)))

    def test_what_stands_between_tokens(self):
        for text in ("num->num", " num -> num ", "num\n->\nnum", "\n\nnum->num\n\n", "#\nnum->num",
                "num#->unit\n->num#", "#num\n#(\nnum#\u00e9\t'!\n->#12a\nnum",
                     "num # -> \n-> num # end", "   \n  num   ->   num   \n  "):
            with self.subTest(text):
                self.assertEqual(read_kind(text), STEP)

    def test_a_remark_ends_with_its_line_alone(self):
        self.assertEqual(read_kind("num # -> num"), NUM)
        self.assertEqual(read_kind("num # -> num\n-> unit # -> num"), ("fun", NUM, UNIT))
        self.assertEqual(read_term("1#\n# + 1\n+ 2"), ("plus", ONE, TWO))
        self.assertEqual(read_kind("num#"), NUM)
        self.assertEqual(read_kind("num ##"), NUM)

    def test_no_other_sign_stands_between_tokens(self):
        for sign in "\t\r\f\v\u00a0\u2028\u2003\0":
            self.assert_bad(read_kind, ((f"num{sign}-> num", 4), (f"{sign}num", 1), (f"num{sign}", 4)))


class BadSignsTest(ReadingCase):

    def test_signs_of_no_token(self):
        for sign in "ABZ!\"$%&/?@[]^_`~\\>\u00e9\u00df\u0661\u00b2\uff41\U0001f600\t'":
            for read in READS:
                self.assert_bad(read, ((sign, 1), (" " + sign, 2), ("  " + sign + "x", 3)))
            self.assert_bad(read_term, (("x " + sign, 3), ("x +" + sign + "y", 4), ("12" + sign, 3), ("x(" + sign, 3),
                    ("12 " + sign, 4)))
            self.assert_bad(read_kind, (("num" + sign, 4), ("num ->" + sign, 7), ("(num," + sign, 6)))
        for sign in "AZ!%>\u00e9\u0661\t":
            self.assert_bad(read_term, (("x" + sign, 2), ("x1" + sign, 3), ("abcdefgh" + sign, 9), ("x'" + sign, 3),
                    ("x'12345678" + sign, 11)))

    def test_a_mark_behind_a_word(self):
        # The word is whole, so where it can't stand it is refused itself.
        self.assert_bad(read_kind, (("num'", 4), ("bag'", 4), ("fn'", 1), ("let'", 1), ("num -> unit'", 12)))
        self.assert_bad(read_term, (("num'", 1), ("let'", 4), ("fn'", 3), ("let x' = case' 1", 14), ("case'", 5),
                ("in'", 1)))
        for word in WORDS:
            text = f"let x = 1 {word}'"
            self.assert_refused(read_term, text, 1, len(text) if word == "in" else 11)

    def test_a_small_letter_behind_a_number(self):
        self.assert_bad(read_term, (("1a", 2), ("12a", 3), ("-1a", 3), ("0a", 2), ("0x1", 2), ("1 + 2b", 6),
                (MANY + "a", 401), ("1in", 2)))
        # The number that it breaks off is no token: it can't be refused ahead of the sign.
        self.assert_bad(read_kind, (("1a", 2), ("num 12a", 7), ("1", 1), ("num 12", 5), ("12A", 1), ("12'", 1)))
        self.assert_bad(read_term, (("12A", 3), ("12'", 3), ("0A", 2), ("x 12a", 5), ("x 12", 3), ("x 12A", 3)))

    def test_the_ninth_sign_of_a_name(self):
        self.assert_bad(read_term, (("abcdefghi", 9), ("abcdefgh1", 9), ("a12345678", 9), ("a12345678'", 9),
                ("x + abcdefghijk", 13),
                                    ("supportss", 9), ("abcdefghi!", 9), ("abcdefgh'123456789", 18)))
        self.assert_bad(read_kind, (("abcdefghi", 9), ("abcdefgh", 1), ("num abcdefghi", 13), ("unitnumbag", 9)))

    def test_the_ninth_sign_behind_a_mark(self):
        self.assert_bad(read_term, (("x'123456789", 11), ("x'000000000", 11), ("abcdefgh'1234567890", 18),
                ("x'123456789a", 11),
                                    ("x'123456789'", 11)))
        self.assert_bad(read_kind, (("x'123456789", 11), ("x'12345678", 1), ("x'12345678a", 1)))

    def test_a_second_mark(self):
        self.assert_bad(read_term, (("x''", 3), ("x'1'", 4), ("x'12345678'", 11), ("abcdefgh''", 10), ("x'''", 3),
                ("y + x''", 7)))
        self.assert_bad(read_kind, (("x''", 3), ("x'1'", 4), ("x'", 1), ("x' '", 1)))

    def test_a_figure_behind_a_first_0(self):
        self.assert_bad(read_term, (("00", 2), ("01", 2), ("007", 2), ("1 + 09", 6), ("0 1", 3), ("01a", 2),
                ("0" * 401, 2)))
        self.assert_bad(read_kind, (("00", 2), ("01", 2), ("0", 1), ("0 0", 1)))
        self.assertEqual(read_term("100"), ("number", 100))

    def test_a_0_behind_a_minus(self):
        self.assert_bad(read_term, (("-0", 2), ("-01", 2), ("-0a", 2), ("--0", 3), ("1 + -0", 6), ("x -0", 4)))
        self.assert_bad(read_kind, (("-0", 2), ("-1", 1), ("--0", 1), ("- 0", 1)))
        self.assertEqual(read_term("-10"), ("number", -10))

    def test_the_401st_figure(self):
        self.assertEqual(len(MANY), 400)
        self.assert_bad(read_term, ((MANY + "1", 401), ("-" + MANY + "1", 402), (MANY + "1a", 401), (MANY * 3, 401),
                ("1 + " + MANY + "0", 405)))
        self.assert_bad(read_kind, ((MANY + "1", 401), (MANY, 1)))

    def test_what_is_bad_behind_what_is_refused_is_not_told(self):
        self.assert_bad(read_kind, (("x !", 1), ("num x !", 5), ("num num 12a", 5), ("! !", 1), ("-> 00", 1)))
        self.assert_bad(read_term, ((") 00", 1), ("1 2 !", 3), ("x y x''", 3), ("f(a, b) !", 4)))

    def test_bad_signs_in_remarks_are_none(self):
        self.assertEqual(read_term("1 # 00 -0 x'' abcdefghi 12a !\u00e9\t"), ONE)

    def test_lines_and_columns(self):
        for text, line, column in (
                ("", 1, 1), (" ", 1, 2), ("\n", 2, 1), ("\n\n", 3, 1), ("#", 1, 2), ("#\n", 2, 1), ("# a\n b", 2, 2),
                ("num\n!", 2, 1), ("num\n  !", 2, 3),
                ("num ->", 1, 7), ("num -> ", 1, 8), ("num ->\n", 2, 1), ("num ->\n ", 2, 2), ("num -> # num", 1, 13),
                ("num -> # num\n", 2, 1),
                ("num\n\n\n->\n", 5, 1), ("(num\n,\n\n  x", 4, 3), ("#\u00e9\u00e9\nx", 2, 1)):
            self.assert_refused(read_kind, text, line, column)


class KindsTest(ReadingCase):

    def test_kinds(self):
        for text, kind in (
                ("unit", UNIT), ("num", NUM), ("bag num", BAG), ("bag unit", ("bag", UNIT)), ("bag(num)", BAG),
                ("bag ((num))", BAG),
                ("(num)", NUM), ("((num))", NUM), ("(num,num)", PAIR), ("((num),num)", PAIR), ("((num,num))", PAIR),
                ("num|unit", SIDES), ("(num|unit)", SIDES), ("num->num", STEP), ("(num->num)", STEP),
                ("num|unit|num", ("either", SIDES, NUM)), ("num|(unit|num)", ("either", NUM, ("either", UNIT, NUM))),
                ("num->num->unit", ("fun", NUM, ("fun", NUM, UNIT))), ("(num->num)->unit", ("fun", STEP, UNIT)),
                ("num|unit->num|unit", ("fun", SIDES, SIDES)),
                ("num|(unit->num)|unit", ("either", ("either", NUM, ("fun", UNIT, NUM)), UNIT)),
                ("bag num|unit", ("either", BAG, UNIT)), ("bag (num|unit)", ("bag", SIDES)),
                ("bag num -> bag num", ("fun", BAG, BAG)),
                ("bag (num, unit|num)", ("bag", ("pair", NUM, ("either", UNIT, NUM)))),
                ("(num->num,bag unit)", ("pair", STEP, ("bag", UNIT))),
                ("(bag num, (num, num -> num))", ("pair", BAG, ("pair", NUM, STEP))),
                ("bag((num,num)|unit)", ("bag", ("either", PAIR, UNIT)))):
            with self.subTest(text):
                self.assertEqual(read_kind(text), kind)
                self.assertEqual(read_kind(text=text), kind)

    def test_refused(self):
        self.assert_bad(read_kind, (
            ("bag", 4), ("bag bag num", 5), ("bag (bag num)", 6), ("bag (num -> num)", 10),
            ("bag (num, bag num)", 11), ("bag (num | bag num)", 12),
            ("bag ((num -> num), num)", 11), ("bag ->", 5), ("bag |", 5), ("bag x", 5), ("bag ()", 6),
            ("bag (num", 9), ("bag (num,", 10), ("num num", 5),
            ("num ->", 7), ("-> num", 1), ("num -> -> num", 8), ("num |", 6), ("| num", 1), ("num | | num", 7),
            ("num | -> num", 7), ("()", 2), ("(num", 5),
            ("(num,", 6), ("(num,)", 6), ("(,num)", 2), ("(num,num", 9), ("(num,num,num)", 9), ("(num num)", 6),
            ("num)", 4), ("num,num", 4), (")", 1), ("x", 1),
            ("3", 1), ("pair", 1), ("fun", 1), ("unit unit", 6), ("num * num", 5), ("num + num", 5), ("num; num", 4),
            ("num = num", 5), ("num -> num)", 11),
            ("bag num num", 9), ("{num}", 1), ("either", 1), ("input", 1)))

    def test_deep(self):
        for text, kind in (("(" * 100 + "num" + ")" * 100, NUM),
                ("num -> " * 99 + "num", nested(100, ("fun", NUM), NUM, ())),
                           ("(" * 99 + "num" + ", num)" * 99, nested(100)),
                           ("num | (" * 99 + "unit" + ")" * 99, nested(100, ("either", NUM), UNIT, ())),
                           ("num" + " | num" * 99, nested(100, ("either",))),
                           ("bag " + "(" * 99 + "num" + ")" * 99, BAG)):
            self.assertEqual(read_kind(text), kind)
        self.assert_bad(read_kind, (("(" * 100, 101), ("num ->" * 99, 595), ("(" * 100 + "num" + ")" * 99, 203)))


class TermsTest(ReadingCase):

    def test_each_form(self):
        for text, term in (
                ("x", X), ("x'", ("name", "x'")), ("3", THREE), ("()", ("unit",)), ("( )", ("unit",)), ("(x)", X),
                ("((x))", X), ("(x,y)", ("pair", X, Y)),
                ("fn x:num.x", ("fn", "x", NUM, X)), ("fn x':num|unit.x", ("fn", "x'", SIDES, X)),
                ("fn x:num->num.x", ("fn", "x", STEP, X)),
                ("let x=1 in x", ("let", "x", ONE, X)), ("let x'=1 in x", ("let", "x'", ONE, X)),
                ("x<y", ("is", "<", X, Y)), ("x<=y", ("is", "<=", X, Y)),
                ("x==y", ("is", "==", X, Y)), ("x+y", ("plus", X, Y)), ("x*y", ("times", X, Y)), ("-x", ("minus", X)),
                ("x(y)", ("call", X, Y)),
                ("zero(num)", ("zero", NUM)), ("zero((num,bag unit))", ("zero", ("pair", NUM, ("bag", UNIT)))),
                ("zero(bag(num|unit))", ("zero", ("bag", SIDES))),
                ("zero((num))", ("zero", NUM)), ("first(x)", ("first", X)), ("second(x)", ("second", X)),
                ("one(x)", ("one", X)), ("support(x)", ("support", X)),
                ("total(x,y)", ("total", X, Y)), ("count(x,y)", ("count", X, Y)), ("left(x,num)", ("left", X, NUM)),
                ("right(num,x)", ("right", NUM, X)),
                ("left(x,num->num)", ("left", X, STEP)), ("right(num|unit,x)", ("right", SIDES, X)),
                ("case x{x.1;y.2}", ("case", X, "x", ONE, "y", TWO)),
                ("case x{x'.1;y'1.2}", ("case", X, "x'", ONE, "y'1", TWO))):
            with self.subTest(text):
                self.assert_same(read_term(text), term)
                self.assert_same(read_term(text=text), term)

    def test_what_binds_tighter(self):
        for text, same in (
                ("x+y+1", "(x+y)+1"), ("x*y*1", "(x*y)*1"), ("x+y*1", "x+(y*1)"), ("x*y+1", "(x*y)+1"),
                ("-x+y", "(-x)+y"), ("-x*y", "(-x)*y"), ("x*-y", "x*(-y)"),
                ("-x(y)", "-(x(y))"), ("--x", "-(-x)"), ("x(y)(1)", "(x(y))(1)"), ("x+y<1*2", "(x+y)<(1*2)"),
                ("x<y+1", "x<(y+1)"), ("fn x:num.x+1", "fn x:num.(x+1)"),
                ("fn x:num.x<1", "fn x:num.(x<1)"), ("let x=1<2 in x<y", "let x=(1<2) in (x<y)"),
                ("let x=fn y:num.y in x(1)", "let x=(fn y:num.y) in (x(1))"),
                ("let x=let y=1 in y in x", "let x=(let y=1 in y) in x"),
                ("fn x:num.fn y:num.x", "fn x:num.(fn y:num.x)"), ("case x{x.1;y.2}(3)", "(case x{x.1;y.2})(3)"),
                ("-case x{x.1;y.2}", "-(case x{x.1;y.2})"), ("case x{x.1;y.2}+1", "(case x{x.1;y.2})+1"),
                ("case fn x:num.x{x.1;y.2}", "case (fn x:num.x){x.1;y.2}"),
                ("case x<1{x.x<y;y.fn x:num.2}", "case (x<1){x.(x<y);y.(fn x:num.2)}"), ("()(x)", "(())(x)"),
                ("(x,y)(1)", "((x,y))(1)"), ("one(x)(y)", "(one(x))(y)"),
                ("x(fn y:num.y)", "x((fn y:num.y))"), ("(x<y,fn x:num.x)", "((x<y),(fn x:num.x))"),
                ("left(x<y,num)", "left((x<y),num)"), ("3(x)", "(3)(x)"),
                ("total(fn v:num.one(v),b)", "total((fn v:num.(one(v))),(b))")):
            with self.subTest(text):
                self.assertEqual(read_term(text), read_term(same))

    def test_refused_at_the_right_token(self):
        self.assert_bad(read_term, (
            ("", 1), ("x y", 3), ("x 1", 3), ("x(", 3), ("x()", 3), ("x(y", 4), ("x(y,1)", 4), ("f(a, b)", 4),
            ("(", 2), ("(x", 3), ("(x,", 4), ("(x,y", 5), ("(x,y,1)", 5), ("(,x)", 2),
            (")", 1), ("x)", 2), ("()()", 4), ("+x", 1), ("x+", 3), ("x++y", 3), ("x+*y", 3), ("x*", 3), ("*x", 1),
            ("-", 2), ("x<", 3), ("<x", 1), ("x<y<1", 4), ("x<y==1", 4), ("x==y<=1", 5),
            ("x<<y", 3), ("x=y", 2), ("x>y", 2), ("x->y", 2), ("x|y", 2), ("x;y", 2), ("x:num", 2), ("x.y", 2),
            ("{x}", 1), ("x{", 2),
            ("x+fn y:num.y", 3), ("x*fn y:num.y", 3), ("x<fn y:num.y", 3), ("-fn y:num.y", 2), ("x+let y=1 in y", 3),
            ("-let y=1 in y", 2), ("x<let y=1 in y", 3),
            ("fn", 3), ("fn 1", 4), ("fn let", 4), ("fn x", 5), ("fn x.x", 5), ("fn x:", 6), ("fn x:x", 6),
            ("fn x:num", 9), ("fn x:num x", 10), ("fn x:num.", 10), ("fn x y", 6), ("fn (x:num).x", 4),
            ("fn x:bag bag num.x", 10), ("let", 4), ("let 1=1 in x", 5), ("let x", 6), ("let x 1", 7), ("let x=", 7),
            ("let x=1", 8), ("let x=1 x", 9), ("let x=1 in", 11), ("let in=1 in x", 5), ("let x==1 in x", 6),
            ("let x=1;x", 8), ("in", 1), ("x in y", 3), ("case", 5), ("case x", 7), ("case {", 6), ("case x{", 8),
            ("case x{x", 9), ("case x{x.", 10), ("case x{x.1", 11), ("case x{x.1}", 11), ("case x{x.1;", 12),
            ("case x{x.1;y.2", 15), ("case x{x.1;y.2;", 15), ("case x{x:1;y.2}", 9), ("case x{1.1;y.2}", 8),
            ("case x{x.1,y.2}", 11), ("case x{x.1;y.2}}", 16), ("case x(x.1;y.2)", 9), ("case x{in.1;y.2}", 8),
            ("zero", 5), ("zero num", 6), ("zero(", 6), ("zero()", 6), ("zero(unit)", 6), ("zero(num|num)", 9),
            ("zero(num->num)", 9), ("zero((num,unit))", 11), ("zero((num|num))", 10), ("zero(num", 9),
            ("zero(num,num)", 9),
            ("zero(bag bag num)", 10), ("zero(bag (num->num))", 14), ("zero(bag num|num)", 13), ("zero(x)", 6),
            ("first", 6), ("first x", 7), ("first()", 7), ("first(x,y)", 8), ("one()", 5), ("support(x", 10),
            ("total(x)", 8), ("total(x,y,1)", 10), ("total x", 7), ("count(x)", 8), ("count(x,", 9), ("left(x)", 7),
            ("left(num,x)", 6), ("left(x,x)", 8), ("left(x,num,num)", 11), ("right(x,num)", 7), ("right(num)", 10),
            ("right(num,num)", 11),
            ("unit", 1), ("num", 1), ("bag", 1), ("input", 1), ("cell", 1), ("x unit", 3), ("x(num)", 3), ("x,y", 2)))

    def test_deep(self):
        for text, depth in (("(" * 100 + "x" + ")" * 100, 0), ("-" * 99 + "x", 99),
                ("first(" * 99 + "x" + ")" * 99, 99), ("x(" * 99 + "y" + ")" * 99, 99)):
            term = read_term(text)
            for _ in range(depth):
                term = term[-1]
            self.assertIn(term, (X, Y))
        term = read_term("fn x: num. " * 99 + "x")
        self.assertEqual(term, nested(100, ("fn", "x", NUM), X, ()))
        self.assertEqual(read_term("let x = " * 99 + "y" + " in x" * 99), nested(100, ("let", "x"), Y, (X,)))
        self.assertEqual(read_term("case " * 99 + "y" + "{x.x;x.x}" * 99),
                nested(100, ("case",), Y, ("x", X, "x", X)))
        self.assertEqual(read_term("x" + "+y" * 99), nested(100, ("plus",), X, (Y,)))
        self.assertEqual(read_term("(" * 50 + "-" * 50 + "x" + ")" * 50), nested(51, ("minus",), X, ()))
        self.assert_bad(read_term, (("(" * 100, 101), ("-" * 100, 101), ("fn x:num." * 100, 901),
                ("case " * 100, 501)))


class ValuesTest(ReadingCase):

    def test_values(self):
        for kind, text, value in (
                (UNIT, "()", ()), (UNIT, "( )", ()), (NUM, "3", 3), (NUM, "-3", -3), (NUM, "0", 0),
                (PAIR, "(1,2)", ("pair", 1, 2)), (SIDES, "left(3)", ("left", 3)),
                (SIDES, "right(())", ("right", ())), (BAG, "{}", ()), (BAG, "{ }", ()), (BAG, "{1:1}", ((1, 1),)),
                (BAG, "{2:1,1:1}", ((1, 1), (2, 1))),
                (BAG, "{1:2,1:3}", ((1, 5),)), (BAG, "{1:2,1:-2}", ()), (BAG, "{1:0}", ()),
                (BAG, "{1:0,2:0,3:1}", ((3, 1),)), (BAG, "{1:1,2:2,1:-1}", ((2, 2),)),
                (BAG, "{3:-1}", ((3, -1),)), (("bag", UNIT), "{():2,():1}", (((), 3),)),
                (("bag", PAIR), "{(2,1):1,(1,2):-1}", ((("pair", 1, 2), -1), (("pair", 2, 1), 1))),
                (("bag", SIDES), "{right(()):1,left(2):1,left(1):1}",
                    ((("left", 1), 1), (("left", 2), 1), (("right", ()), 1))),
                (("pair", BAG, ("pair", SIDES, UNIT)), "({1:1},(left(1),()))",
                    ("pair", ((1, 1),), ("pair", ("left", 1), ()))),
                (("either", BAG, BAG), "right({})", ("right", ())), (NUM, " # a\n 3 # b", 3),
                (BAG, "{" + MANY + ":-" + MANY + "}", ((int(MANY), -int(MANY)),))):
            with self.subTest(text):
                self.assert_same(read_value(kind, text), value)
                self.assert_same(read_value(text=text, kind=kind), value)

    def test_many_rows(self):
        text = "{" + ", ".join(f"{at % 500}: {at % 7 - 3}" for at in range(3000)) + "}"
        counted = {}
        for at in range(3000):
            counted[at % 500] = counted.get(at % 500, 0) + at % 7 - 3
        self.assertEqual(read_value(BAG, text), tuple(row for row in sorted(counted.items()) if row[1]))

    def test_refused(self):
        for kind, rows in (
                (UNIT, (("", 1), ("(", 2), (")", 1), ("(1)", 2), ("1", 1), ("()()", 3), ("unit", 1), ("{}", 1))),
                (NUM, (("", 1), ("- 3", 1), ("x", 1), ("()", 1), ("(3)", 1), ("3 3", 3), ("--3", 1), ("1+1", 2),
                    ("-", 1), ("00", 2), ("-0", 2))),
                (PAIR, (("", 1), ("()", 2), ("(1", 3), ("(1)", 3), ("(1,", 4), ("(1,2", 5), ("(1,2,3)", 5),
                    ("((1,2))", 2), ("1", 1), ("(1;2)", 3), ("(1,2)3", 6))),
                (SIDES, (("", 1), ("left", 5), ("left(", 6), ("left()", 6), ("left(()", 6), ("left(1", 7),
                    ("left(1,num)", 7), ("right(1)", 7), ("right()", 7), ("right(()", 9), ("middle(1)", 1),
                         ("(left(1))", 1), ("left 1", 6), ("left(1))", 8), ("one(1)", 1), ("1", 1))),
                (BAG, (("", 1), ("{", 2), ("{1", 3), ("{1:", 4), ("{1:1", 5), ("{1:1,", 6), ("{1:1,}", 6), ("{,}", 2),
                    ("{1}", 3), ("{1,2}", 3), ("{1:x}", 4), ("{x:1}", 2), ("{1:1 2:1}", 6),
                       ("{1:1;2:1}", 5), ("{1:1:1}", 5), ("()", 1), ("{}{}", 3), ("{():1}", 2), ("{1:()}", 4),
                       ("{1:- 1}", 4), ("{{}:1}", 2))),
                (("pair", BAG, SIDES), (("({},)", 5), ("({},left(1)", 12), ("({1:1},right(1))", 14),
                    ("(left(1),{})", 2)))):
            self.assert_bad(lambda text, kind=kind: read_value(kind, text), rows)

    def test_a_text_of_another_kind(self):
        self.assert_refused(lambda text: read_value(SIDES, text), "\n right(\n 1)", 3, 2)

    def test_deep(self):
        for kind, text, value in (
                (nested(100), "(" * 99 + "1" + ", 2)" * 99, nested(100, ("pair",), 1, (2,))),
                (nested(100, ("either",)), "left(" * 99 + "1" + ")" * 99, nested(100, ("left",), 1, ()))):
            self.assertEqual(read_value(kind, text), value)


class SheetsTest(ReadingCase):

    def test_sheets(self):
        for text, sheet in (
                ("", ()), (" \n# none\n", ()), ("input a:num=3;", (("input", "a", NUM, 3),)),
                ("cell a=3;", (("cell", "a", THREE),)),
                ("input a:num|unit=left(3);cell b=case a{x.x;y.2};",
                    (("input", "a", SIDES, ("left", 3)), ("cell", "b", ("case", ("name", "a"), "x", X, "y", TWO)))),
                ("input a:bag num={2:1,1:1,3:0};", (("input", "a", BAG, ((1, 1), (2, 1))),)),
                ("input a:(bag unit,num|num|unit)=({():1},left(right(2)));",
                 (("input", "a", ("pair", ("bag", UNIT), ("either", ("either", NUM, NUM), UNIT)),
                     ("pair", (((), 1),), ("left", ("right", 2)))),)),
                ("cell a=fn x:num.x;cell b=a(1);cell c=let a=b in a;", (
                    ("cell", "a", ("fn", "x", NUM, X)), ("cell", "b", ("call", ("name", "a"), ONE)),
                    ("cell", "c", ("let", "a", ("name", "b"), ("name", "a"))))),
                ("cell a=1;input b:num=2;", (("cell", "a", ONE), ("input", "b", NUM, 2)))):
            with self.subTest(text):
                self.assertEqual(read_sheet(text), sheet)
                self.assertEqual(read_sheet(text=text), sheet)
                self.assertEqual(read_sheet(text.replace(";", " # x\n ; \n\n")), sheet)

    def test_refused(self):
        self.assert_bad(read_sheet, (
            ("input", 6), ("input a", 8), ("input a:", 9), ("input a:num", 12), ("input a:num=", 13),
            ("input a:num=3", 14), ("input a:num=3;x", 15), ("input a=3;", 8), ("input 1:num=3;", 7),
            ("input x':num=3;", 7),
            ("input cell:num=3;", 7), ("input a:num->num=3;", 12), ("input a:(num->num)=3;", 13),
            ("input a:bag bag num={};", 13), ("input a:num=();", 13), ("input a:unit=3;", 14), ("input a:num=x;", 13),
            ("input a:num=1+1;", 14),
            ("input a:num=- 3;", 13), ("input a:num==3;", 12), ("input a:num|unit=middle;", 18),
            ("input a:num|unit=right(3);", 24), ("input a:bag num={1};", 19), ("input a:num=3.", 14),
            ("input a:num=3;;", 15),
            ("cell", 5), ("cell a", 7), ("cell a=", 8), ("cell a=1", 9), ("cell a=1 cell b=2;", 10),
            ("cell a'=1;", 6), ("cell fn=1;", 6), ("cell a:num=1;", 7), ("cell a==1;", 7), ("cell a=;", 8),
            ("cell a=1;;", 10), ("cell a=1;1", 10),
            ("cell a=num;", 8), ("a=1;", 1), ("fn x:num.x", 1), (";", 1), ("cell a=1);", 9), ("cell a=1;)", 10),
            ("output a=1;", 1), ("cell a=1; input", 16), ("cell a=zero(unit);", 13)))
        self.assert_refused(read_sheet, "cell a = 1;\ncell b = 2\ncell c = 3;", 3, 1)
        self.assert_refused(read_sheet, "cell a = 1;\ncell b = 2\n", 3, 1)
        self.assert_refused(read_sheet, "input a: num = 1; # one\n  cell a' = 2;", 2, 8)

    def assert_no_sheet(self, text, index):
        with self.subTest(text[:80]):
            self.assert_told(InvalidSheet, {"index": index}, read_sheet, text)

    def test_cells_that_are_no_sheet(self):
        for text, index in (
                ("cell a=1;cell a=2;", 1), ("input a:num=1;cell a=2;", 1),
                ("input a:num=1;input b:num=1;input a:num=1;", 2), ("cell a=a;", 0), ("cell a=b;cell b=1;", 0),
                ("cell a=1;cell b=a+c;cell c=1;", 1),
                ("cell a=x';", 0), ("cell a=1;cell b=fn x':num.1;", 1), ("cell a=1;cell b=let x'=1 in x';", 1),
                ("cell a=case 1{x'.1;y.2};", 0), ("input a:num=1;cell b=a';", 1),
                ("cell a=" + "-" * 12 + "(1);", 0), ("cell a=1;cell b=" + "+".join(["1"] * 13) + ";", 1),
                ("cell a=fn x:num.a;", 0), ("cell a=let x=x in 1;", 0),
                ("cell a=1;" + "cell b=zero(" + "(num," * 6 + "num" + ")" * 6 + ");", 1),
                ("input a:" + "(num," * 6 + "num" + ")" * 6 + "=" + "(1," * 6 + "1" + ")" * 6 + ";", 0)):
            self.assert_no_sheet(text, index)

    def test_what_is_just_a_sheet(self):
        for text in ("cell a=" + "-" * 10 + "(1);", "cell b=" + "+".join(["1"] * 12) + ";",
                "cell b=zero(" + "(num," * 5 + "num" + ")" * 5 + ");",
                     "input a:" + "(num," * 5 + "num" + ")" * 5 + "=" + "(1," * 5 + "1" + ")" * 5 + ";",
                     "cell a=1+();", "cell a=1(2);", "cell a=fn a:num.a;",
                     "input a:num=1;cell b=let a=a in fn b:num.a+b;"):
            with self.subTest(text):
                self.assertEqual(len(read_sheet(text)), 1 if text.startswith("cell") or "cell" not in text else 2)

    def test_forty_cells(self):
        for many in (39, 40):
            self.assertEqual(len(read_sheet("".join(f"cell a{at}=1;" for at in range(many)))), many)
        self.assert_no_sheet("".join(f"cell a{at}=1;" for at in range(41)), None)
        self.assert_no_sheet("".join("cell a=a;" for _ in range(41)), None)
        # A bad text is told ahead of cells that make no sheet.
        self.assert_refused(read_sheet, "cell a=a;cell a=a;cell", 1, 23)
        self.assert_refused(read_sheet, "cell a=1;" * 41 + "!", 1, 370)


class WrongArgumentsTest(Case):

    def test_what_is_no_text(self):
        for thing in odd_things() + [b"num", ["num"], ("num",), 3]:
            if not isinstance(thing, str):
                for read in READS:
                    self.assert_told(InvalidText, {"line": None, "column": None}, read, thing)
                    self.assert_told(InvalidText, {"line": None, "column": None}, read, text=thing)
                self.assert_told(InvalidText, {"line": None, "column": None}, read_value, NUM, thing)
                self.assert_told(InvalidText, {"line": None, "column": None}, read_value, text=thing, kind=NUM)

    def test_what_is_no_data_kind(self):
        for thing in odd_things() + [STEP, ("pair", STEP, NUM), ("bag", BAG), ("int",), nested(101), X]:
            self.assert_told(InvalidKind, {"given": thing}, read_value, thing, "3")
            # The kind comes ahead of the text.
            self.assert_told(InvalidKind, {"given": thing}, read_value, thing, "!")
            self.assert_told(InvalidKind, {"given": thing}, read_value, text=None, kind=thing)


if __name__ == "__main__":
    unittest.main()
