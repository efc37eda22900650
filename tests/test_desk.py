"""[F1], [F2] and desk.py: lines and their answers, and what stays as it was."""

import unittest

from changewise.desk import Desk
from changewise.errors import InvalidLine, InvalidSheet, InvalidText
from changewise.sheets import is_sound, kinds_in, shown
from changewise.terms import is_written
from changewise.text import read_sheet, read_term, read_value, show_kind, show_sheet, show_term, show_value
from tests import oracle
from tests.cases import Case, Stubborn, odd_things
from tests.drawing import Drawer
from tests.grammar import refused_at, sort_of
from tests.test_refusals import BAD, TOKEN, Row, changed, place_of

NUM, UNIT = ("num",), ("unit",)
SHOP = ("input a: num = 3; input b: bag num = {1: 2, 5: 1}; input e: num | unit = right(()); "
        "cell by = fn x: num. x * a; cell s = total(by, b); cell t = case e {x. x + s; u. s}; cell p = (by, s); "
        "input z: unit = (); cell q = 1;")
SHOWN = ("a = 3", "b = {1: 2, 5: 1}", "e = right(())", "by: num -> num", "s = 21", "t = 21", "p: (num -> num, num)",
         "z = ()", "q = 1")
TEXT = ("input a: num = 3;", "input b: bag num = {1: 2, 5: 1};", "input e: num | unit = right(());",
        "cell by = fn x: num. x * a;", "cell s = total(by, b);", "cell t = case e {x. x + s; u. s};", "cell p = (by, s);",
        "input z: unit = ();", "cell q = 1;")
NO_LINE, NO_SHEET, NOTHING = ("no such line",), ("no sheet",), ("nothing changed",)


def desk_with(text=SHOP):
    desk = Desk()
    desk.say("sheet " + text)
    return desk


def state(desk):
    """All that lines tell without changing anything."""
    names = [name for name, _ in kinds_in(desk.sheet())]
    lines = ["show", "text", "look"] + [f"hangs {name}" for name in names] + [f"tell {name}" for name in names]
    return [desk.say(line) for line in lines] + [desk.sheet()]


class DeskCase(Case):

    def check_rows(self, desk, rows):
        for line, answer in rows:
            with self.subTest(line):
                self.assert_same(desk.say(line), answer)


class OrdersTest(DeskCase):

    def test_no_such_line(self):
        rows = [(line, NO_LINE) for line in (
            "", " ", "  ", "x", "Show", "shows", " show", "sheets", "SET a = 1", "show ", "undo ", "text ", "look ", "show  ",
            "undo it", "text\n", "show\n", "look\t", "tell\nby", "set\ta = 1", "sheet\ninput", "\nshow", "a = 1", "sheet;", "set; a")]
        self.check_rows(Desk(), rows)
        desk = desk_with()
        held = state(desk)
        self.check_rows(desk, rows)
        self.assertEqual(state(desk), held)

    def test_no_sheet(self):
        desk = Desk()
        self.check_rows(desk, [(line, NO_SHEET) for line in (
            "show", "text", "look", "undo", "set", "set ", "set a = 1", "set )", "change", "change a = 1", "hangs", "hangs a",
            "tell", "tell 1", "tell )")])
        self.assertIsNone(desk.sheet())

    def test_a_sheet(self):
        for text, answer in (("", "0 cells"), (" ", "0 cells"), ("# none", "0 cells"), ("cell a = 1;", "1 cells"), (SHOP, "9 cells"),
                             ("\ninput a: num = 1;\n\ncell b = a; # so\n", "2 cells")):
            desk = Desk()
            self.check_rows(desk, [("sheet " + text, (answer,))])
            self.assertEqual(desk.sheet(), read_sheet(text))
        desk = Desk()
        self.check_rows(desk, [("sheet", ("0 cells",)), ("show", ()), ("text", ()), ("look", ("nothing",)),
                               ("undo", ("nothing to undo",)), ("tell 1 + 1", ("2",)), ("hangs a", ("no cell a",)),
                               ("set a = 1", ("no input a",))])
        self.assertEqual(desk.sheet(), ())

    def test_a_bad_sheet(self):
        many = " ".join(f"cell c{at} = 1;" for at in range(40))
        for text, answer in (
                ("cell a = ;", "bad text at 1 10"), ("cell a = 1", "bad text at 1 11"), ("cell a = 1;\ncell b = (;", "bad text at 2 11"),
                ("cell a' = 1;", "bad text at 1 6"), ("input a: num = ();", "bad text at 1 16"), ("input f: num -> num = 1;", "bad text at 1 14"),
                ("cell a = 1; cell a = 2;", "no cell 1"), ("cell a = b; cell b = 1;", "no cell 0"), ("cell a = 1; cell b = a';", "no cell 1"),
                ("cell a = 1 + ();", "no cell 0"), ("cell a = 1; cell b = a(1);", "no cell 1"),
                # What makes no sheet is told ahead of what is not sound.
                ("cell a = 1 + (); cell b = c;", "no cell 1"), ("cell a = 1 + (); cell a = 1;", "no cell 1"),
                ("cell a = 1 + (); cell b = 1(1);", "no cell 0"), (many + " cell a = ();", "no cell 40"),
                (many + " cell c0 = 1 + ();", "no cell 40"), ("cell a = 1 + ();" + many, "no cell 40"),
                ("cell a = " + "-" * 13 + "1;", "no cell 0"), ("cell a = " + " + ".join("1" * 70) + ";", "no cell 0")):
            for desk in (Desk(), desk_with(), desk_with("cell z = 1;")):
                held = state(desk) if desk.sheet() is not None else None
                self.check_rows(desk, [("sheet " + text, (answer,))])
                self.assertEqual(state(desk) if desk.sheet() is not None else None, held)
        desk = Desk()
        self.check_rows(desk, [("sheet " + many, ("40 cells",))])

    def test_a_new_sheet_begins_anew(self):
        desk = desk_with()
        self.check_rows(desk, [("set a = 4", ("a = 4", "s = 28", "t = 28")), ("look", ("by s t p",)),
                               ("sheet cell a = 1;", ("1 cells",)), ("look", ("nothing",)), ("undo", ("nothing to undo",)),
                               ("show", ("a = 1",)), ("set a = 1", ("no input a",))])

    def test_show_and_text(self):
        desk = desk_with()
        self.check_rows(desk, [("show", SHOWN), ("text", TEXT)])
        self.check_rows(desk, [("set e = left(4); z = ()", ("e = left(4)", "t = 25")), ("text", TEXT[:2] + (
            "input e: num | unit = left(4);",) + TEXT[3:])])

    def test_hangs(self):
        self.check_rows(desk_with(), [
            ("hangs a", ("a",)), ("hangs b", ("b",)), ("hangs by", ("a",)), ("hangs s", ("a b",)), ("hangs t", ("a b e",)), ("hangs p", ("a b",)),
            ("hangs z", ("z",)), ("hangs q", ("nothing",)), ("hangs", ("no cell ",)), ("hangs ", ("no cell ",)), ("hangs x", ("no cell x",)),
            ("hangs s ", ("no cell s ",)), ("hangs  s", ("no cell  s",)), ("hangs s t", ("no cell s t",)), ("hangs s'", ("no cell s'",)),
            ("hangs #", ("no cell #",)), ("hangs s\n", ("no cell s\n",))])

    def test_tell(self):
        self.check_rows(desk_with(), [
            ("tell by(s)", ("63",)), ("tell by", ("num -> num",)), ("tell p", ("(num -> num, num)",)), ("tell b + b", ("{1: 4, 5: 2}",)),
            ("tell a < s", ("left(())",)), ("tell fn x: num. by", ("num -> num -> num",)), ("tell (a, e)", ("(3, right(()))",)),
            ("tell first(p)(2)", ("6",)), ("tell let a = 7 in by(a)", ("21",)), ("tell   1 # one", ("1",)), ("tell\n1", NO_LINE),
            ("tell", ("bad text at 1 1",)), ("tell ", ("bad text at 1 1",)), ("tell 1 +", ("bad text at 1 4",)), ("tell \n )", ("bad text at 2 2",)),
            ("tell 1;", ("bad text at 1 2",)), ("tell x", ("no kind",)), ("tell a'", ("no term",)), ("tell a + ()", ("no kind",)), ("tell a(1)", ("no kind",)),
            ("tell let a' = 1 in 1", ("no term",)), ("tell " + "-" * 12 + "a", ("no term",)), ("tell " + "-" * 11 + "a", ("-3",)),
            ("tell " + " + ".join(["(1 + 1 + 1 + 1 + 1)"] * 7), ("35",)), ("tell " + "+".join("1" * 13), ("no term",)),
            ("tell " + "-" * 13 + "x", ("no term",)), ("tell zero(num)", ("0",)), ("tell -(a)", ("-3",)), ("tell case e {x. x; u. 1}", ("1",))])

    def test_set(self):
        self.check_rows(desk_with(), [
            ("set a = 4", ("a = 4", "s = 28", "t = 28")), ("set a = 4", NOTHING), ("set b = {}; a = 1", ("a = 1", "b = {}", "s = 0", "t = 0")),
            ("set  e=left( 3 ) ;\n b = {2:1, 1: 1,2:1} # so", ("b = {1: 1, 2: 2}", "e = left(3)", "s = 5", "t = 8")),
            ("set z = ()", NOTHING), ("set b = {1: 1, 2: 2}; e = left(3); a = 1; z = ()", NOTHING), ("set e = right(())", ("e = right(())", "t = 5"))])

    def test_change(self):
        self.check_rows(desk_with(), [
            ("change a = 1", ("a = 4", "s = 28", "t = 28")), ("change a = 0", NOTHING), ("change b = {5: -1, 1: -2}; a = -4", (
                "a = 0", "b = {}", "s = 0", "t = 0")), ("change e = left(right(()))", NOTHING), ("change e = right(left(2))", ("e = left(2)", "t = 2")),
            ("change e = left(left(3))", ("e = left(5)", "t = 5")), ("change e = right(left(5)); z = ()", NOTHING),
            ("change e = right(right(()));a=1", ("a = 1", "e = right(())", "t = 0"))])

    def test_what_is_wrong_first_from_the_left_is_told(self):
        rows = (
            ("", "bad text at 1 1"), (" ", "bad text at 1 2"), ("a", "bad text at 1 2"), ("a =", "bad text at 1 4"), ("a = 4;", "bad text at 1 7"),
            ("a = 4 b", "bad text at 1 7"), ("a = ; s = 1", "bad text at 1 5"), ("s = 1", "no input s"), ("x = 1", "no input x"), ("s", "no input s"),
            ("s = ", "no input s"), ("s )", "no input s"), ("s!", "no input s"), ("by = 1; a = )", "no input by"), ("a = 4; a = 5", "no input a"), ("a = 4; z = (); z = ()", "no input z"), ("z = (); a = 4; a = 5; z", "no input a"),
            ("a = 4; a", "no input a"), ("a = 4; b = {}; a = )", "no input a"), ("a = 4; a = 5; x = 1", "no input a"), ("a = ); x = 1", "bad text at 1 5"),
            ("a = (1, 2)", "bad text at 1 5"), ("a = 4;; b = {}", "bad text at 1 7"), ("a == 4", "bad text at 1 3"), ("a: 4", "bad text at 1 2"),
            ("a' = 4", "bad text at 1 1"), ("in = 4", "bad text at 1 1"), ("A = 4", "bad text at 1 1"), ("1 = 4", "bad text at 1 1"),
            ("abcdefghi = 4", "bad text at 1 9"), ("a = 4,", "bad text at 1 6"), ("\na = )", "bad text at 2 5"), ("a = 4;\n\n  x = 1", "no input x"),
            ("a = 4; b = {1: 2; 3}", "bad text at 1 17"), ("a = 01", "bad text at 1 6"), ("a = -0", "bad text at 1 6"), ("a = - 4", "bad text at 1 5"),
            ("a = a", "bad text at 1 5"), ("z = 1", "bad text at 1 5"), ("x' = 1", "bad text at 1 1"), ("x'' = 1", "bad text at 1 3"), ("x = 1; )", "no input x"),
        )
        for order in ("set", "change"):
            desk = desk_with()
            desk.say("set a = 5")
            held = state(desk)
            self.check_rows(desk, [(f"{order} {rest}", (answer,)) for rest, answer in rows])
            self.check_rows(desk, [(order, ("bad text at 1 1",))])
            self.assertEqual(state(desk), held)
        self.check_rows(desk, [("set e = 4", ("bad text at 1 5",)), ("set e = left(())", ("bad text at 1 10",)),
                               ("change e = left(4)", ("bad text at 1 10",)), ("change e = right(4)", ("bad text at 1 11",))])

    def test_a_change_that_does_not_fit(self):
        desk = desk_with(SHOP + "input g: num | unit = left(1);")
        desk.say("set a = 5")
        held = state(desk)
        self.check_rows(desk, [
            ("change e = left(left(4))", ("does not fit e",)), ("change a = 1; e = left(left(4))", ("does not fit e",)),
            ("change g = left(right(())); e = left(left(1))", ("does not fit g",)), ("change e = left(left(1)); g = left(right(()))", ("does not fit e",)),
            ("change e = left(left(4)); x = 1", ("no input x",)), ("change e = left(left(4)); a = )", ("bad text at 1 24",)),
            ("change e = left(left(4)); e = left(right(()))", ("no input e",)), ("change g = left(left(1)); e = left(left(1))", ("does not fit e",))])
        self.assertEqual(state(desk), held)

    def test_undo_and_look(self):
        self.check_rows(desk_with(), [
            ("look", ("nothing",)), ("undo", ("nothing to undo",)), ("set a = 4", ("a = 4", "s = 28", "t = 28")), ("look", ("by s t p",)),
            ("set e = left(1)", ("e = left(1)", "t = 29")), ("look", ("t",)), ("set z = ()", NOTHING), ("look", ("nothing",)),
            ("set x = 1", ("no input x",)), ("look", ("nothing",)), ("undo", NOTHING), ("look", ("nothing",)),
            ("undo", ("e = right(())", "t = 28")), ("look", ("t",)), ("change a = )", ("bad text at 1 5",)), ("look", ("t",)),
            ("undo", ("a = 3", "s = 21", "t = 21")), ("look", ("by s t p",)), ("undo", ("nothing to undo",)), ("look", ("by s t p",)),
            ("show", SHOWN), ("text", TEXT)])

    def test_great_numbers(self):
        great = "9" * 400
        desk = desk_with(f"input a: num = {great}; input b: bag num = {{-{great}: {great}}}; cell c = a * a * a; cell f = fn x: num. x * x;")
        self.check_rows(desk, [("tell a", (great,)), ("tell a + 1", ("1" + "0" * 400,)), ("tell b", (f"{{-{great}: {great}}}",)),
                               ("tell f(f(f(f(a + 1))))", ("1" + "0" * 6400,)), ("tell -f(f(f(f(a + 1)))) + 7", ("-" + "9" * 6399 + "3",)),
                               ("set a = -1; b = {}", ("a = -1", "b = {}", "c = -1"))])


class MethodsTest(DeskCase):

    def test_no_line(self):
        for desk in (Desk(), desk_with()):
            held = desk.sheet()
            for thing in odd_things() + [1, ("show",), ["show"], b"show", Stubborn()]:
                if not isinstance(thing, str):
                    self.assert_told(InvalidLine, {"given": thing}, desk.say, thing)
                    self.assert_told(InvalidLine, {"given": thing}, desk.say, line=thing)
            self.assertEqual(desk.sheet(), held)
        self.assert_same(desk.say(line="tell a"), ("3",))

    def test_the_sheet(self):
        desk = Desk()
        self.assertIsNone(desk.sheet())
        desk.say("sheet " + SHOP)
        self.assertEqual(desk.sheet(), read_sheet(SHOP))
        desk.say("set a = 4")
        self.assertEqual(desk.sheet(), read_sheet(SHOP.replace("num = 3", "num = 4")))
        desk.say("undo")
        self.assertEqual(desk.sheet(), read_sheet(SHOP))

    def test_two_desks_go_their_own_ways(self):
        one, two = desk_with(), desk_with()
        one.say("set a = 4")
        self.assert_same(two.say("show"), SHOWN)
        self.assert_same(two.say("undo"), ("nothing to undo",))


class FromNothing:
    """A desk that keeps nothing up: each answer is reckoned from the sheet alone."""

    def __init__(self):
        self.now, self.behind, self.seen = None, [], ()

    def say(self, line):
        order, blank, rest = line.partition(" ")
        if order not in ("sheet", "set", "change", "undo", "show", "text", "look", "hangs", "tell") or (
                blank and order in ("undo", "show", "text", "look")):
            return NO_LINE
        if order != "sheet" and self.now is None:
            return NO_SHEET
        return getattr(self, order)(rest)

    def sheet(self, rest):
        try:
            sheet = read_sheet(rest)
        except InvalidText as error:
            return (f"bad text at {error.line} {error.column}",)
        except InvalidSheet as error:
            return (f"no cell {40 if error.index is None else error.index}",)
        for at in range(len(sheet)):
            if not is_sound(sheet[:at + 1]):
                return (f"no cell {at}",)
        self.now, self.behind, self.seen = sheet, [], ()
        return (f"{len(sheet)} cells",)

    def parts(self, rest, kinds):
        """The pairs of a line, cut at ";", each read by itself."""
        found, start = {}, 0
        for piece in rest.split(";"):
            name, _, value = piece.partition("=")
            # Bad texts are told by other tests; drawn lines have none.
            if name.strip() not in kinds or name.strip() in found:
                return f"no input {name.strip()}"
            found[name.strip()] = read_value(kinds[name.strip()], value)
            start += len(piece) + 1
        return found

    def lead(self, edit):
        """Do an edit; the answer."""
        was = self.now
        self.seen = oracle.looked_at(was, edit)
        self.now = oracle.edited(was, edit)
        kinds, ahead = oracle.kinds_of_sheet(was), dict(oracle.shown(was))
        changed = [(name, value) for name, value in oracle.shown(self.now) if value != ahead[name]]
        return tuple(f"{name} = {show_value(kinds[name], value)}" for name, value in changed) or NOTHING

    def set(self, rest):
        inputs = {cell[1]: cell for cell in self.now if cell[0] == "input"}
        told = self.parts(rest, {name: inputs[name][2] for name in inputs})
        if isinstance(told, str):
            return (told,)
        return self.keep({name: oracle.less(inputs[name][2], told[name], inputs[name][3]) for name in told})

    def change(self, rest):
        inputs = {cell[1]: cell for cell in self.now if cell[0] == "input"}
        told = self.parts(rest, {name: oracle.changes(inputs[name][2]) for name in inputs})
        if isinstance(told, str):
            return (told,)
        for name in told:
            if not oracle.fits(inputs[name][2], inputs[name][3], told[name]):
                return (f"does not fit {name}",)
        return self.keep(told)

    def keep(self, changes):
        self.behind.append(self.now)
        return self.lead(tuple((cell[1], changes[cell[1]]) for cell in self.now if cell[1] in changes))

    def undo(self, rest):
        if not self.behind:
            return ("nothing to undo",)
        back = self.behind.pop()
        edit = tuple((cell[1], oracle.less(cell[2], cell[3], now[3]))
                     for cell, now in zip(back, self.now) if cell[0] == "input")
        return self.lead(edit)

    def show(self, rest):
        kinds, values = oracle.kinds_of_sheet(self.now), dict(oracle.shown(self.now))
        return tuple(f"{name} = {show_value(kinds[name], values[name])}" if name in values else
                     f"{name}: {show_kind(kinds[name])}" for name in kinds)

    def text(self, rest):
        return tuple(show_sheet(self.now).split("\n")) if self.now else ()

    def look(self, rest):
        return (" ".join(self.seen) or "nothing",)

    def hangs(self, rest):
        cells = {cell[1]: cell for cell in self.now}
        if rest not in cells:
            return (f"no cell {rest}",)
        found, todo = set(), [rest]
        while todo:
            cell = cells[todo.pop()]
            found |= {cell[1]} if cell[0] == "input" else set()
            todo += oracle.names_in(cell[2]) if cell[0] == "cell" else []
        return (" ".join(name for name in cells if name in found) or "nothing",)

    def tell(self, rest):
        term, kinds = read_term(rest), oracle.kinds_of_sheet(self.now)
        if not is_written(term):
            return ("no term",)
        try:
            kind = oracle.kind_of(kinds, term)
        except oracle.NoKind:
            return ("no kind",)
        if not oracle.is_data(kind):
            return (show_kind(kind),)
        means = {}
        for cell in self.now:
            means[cell[1]] = cell[3] if cell[0] == "input" else oracle.meaning(kinds, means, cell[2], oracle.Calls())
        return (show_value(kind, oracle.meaning(kinds, means, term, oracle.Calls())),)


def drawn_line(drawer, model):
    """A line for a desk that keeps a sheet; most do something."""
    kinds = oracle.kinds_of_sheet(model.now)
    inputs = [cell for cell in model.now if cell[0] == "input"]
    order = drawer.one_of("set", "set", "change", "change", "change", "undo", "undo", "show", "text", "look", "hangs", "tell", "tell")
    if order in ("set", "change"):
        chosen = [cell for cell in inputs if drawer.chance(50)] or inputs[:1]
        drawer.random.shuffle(chosen)
        pairs = []
        for cell in chosen:
            kind = cell[2] if order == "set" else oracle.changes(cell[2])
            value = drawer.value(kind) if order == "set" or drawer.chance(8) else drawer.fitting(cell[2], cell[3])
            pairs.append(f"{cell[1]} = {show_value(kind, value)}")
        if drawer.chance(8):
            pairs.append(drawer.one_of(pairs[0], "c0 = 1", "none = ()"))
        return f"{order} " + "; ".join(pairs)
    if order == "hangs":
        return "hangs " + drawer.one_of(*kinds, "none", "")
    if order == "tell":
        term = drawer.term(tuple(kinds.items()), drawer.kind(3), 3) if drawer.chance(80) else drawer.any_term(3)
        return "tell " + show_term(term)
    return order


class DrawnLinesTest(Case):

    def drawn(self, seed):
        drawer = Drawer(seed)
        return drawer, drawer.sheet(drawer.random.randrange(1, 4), drawer.random.randrange(1, 5), 4)

    def test_against_a_desk_that_reckons_all_from_nothing(self):
        answers = set()
        for seed in range(250):
            drawer, sheet = self.drawn(seed)
            desk, model = Desk(), FromNothing()
            line = "sheet " + show_sheet(sheet)
            self.assert_same(desk.say(line), model.say(line))
            for _ in range(14):
                line = drawn_line(drawer, model)
                with self.subTest(seed, line=line):
                    answer = desk.say(line)
                    self.assert_same(answer, model.say(line))
                    self.assert_same(desk.sheet(), model.now)
                    self.assert_same(desk.say("show"), model.say("show"))
                answers.add(answer)
        for answer in (("nothing changed",), ("nothing to undo",), ("no input none",), ("no kind",), ("no cell none",)):
            self.assertIn(answer, answers)
        self.assertTrue([answer for answer in answers if answer and answer[0].startswith("does not fit")])

    def test_text_said_again_to_a_new_desk(self):
        for seed in range(150):
            drawer, sheet = self.drawn(seed)
            desk, model = Desk(), FromNothing()
            for each in (desk, model):
                each.say("sheet " + show_sheet(sheet))
            for _ in range(6):
                line = drawn_line(drawer, model)
                desk.say(line)
                model.say(line)
                other = Desk()
                other.say("sheet " + "\n".join(desk.say("text")))
                for asked in ("show", "text"):
                    self.assert_same(other.say(asked), desk.say(asked))
                self.assert_same(other.sheet(), desk.sheet())

    def test_an_undo_brings_all_answers_back(self):
        for seed in range(150):
            drawer, sheet = self.drawn(seed)
            desk, model = Desk(), FromNothing()
            for each in (desk, model):
                each.say("sheet " + show_sheet(sheet))
            asked = ["show", "text"] + [f"{order} {cell[1]}" for cell in sheet for order in ("hangs", "tell")]
            rows = []
            for _ in range(5):
                line = drawn_line(drawer, model)
                if line.startswith(("set", "change")):
                    ahead = [desk.say(each) for each in asked]
                    model.say(line)
                    if desk.say(line)[0].split(" ")[0] not in ("no", "does"):
                        rows.append(ahead)
            while rows:
                desk.say("undo")
                self.assert_same([desk.say(each) for each in asked], rows.pop())
            self.assert_same(desk.say("undo"), ("nothing to undo",))

    def test_other_lines_change_nothing(self):
        for seed in range(100):
            drawer, sheet = self.drawn(seed)
            desk, model = Desk(), FromNothing()
            for each in (desk, model):
                each.say("sheet " + show_sheet(sheet))
                each.say(drawn_line(Drawer(seed), model) if each is model else "look")
            held = state(desk)
            for _ in range(8):
                line = drawn_line(drawer, model)
                if not line.startswith(("set", "change", "undo")):
                    desk.say(line)
                    self.assert_same(state(desk), held)

    def test_what_is_shown_is_what_the_sheet_shows(self):
        desk = desk_with()
        for line in ("set a = 9", "change b = {7: 1}; e = right(left(2))", "undo", "set e = left(0)"):
            desk.say(line)
            told = [answer for answer in desk.say("show") if " = " in answer]
            kinds = dict(kinds_in(desk.sheet()))
            self.assertEqual(told, [f"{name} = {show_value(kinds[name], value)}" for name, value in shown(desk.sheet())])


def told_first(row, kinds):
    """What is wrong first in a row of tokens of a set or change, from the left; None if nothing is."""
    bad = [at for at, token in enumerate(row.tokens) if token in BAD]
    tokens, seen, at = row.tokens[:bad[0]] if bad else row.tokens, [], 0

    def refused(index):
        if bad and index >= len(tokens):
            return place_of(row.text, row.starts[bad[0]] + BAD[row.tokens[bad[0]]])
        return place_of(row.text, row.starts[index])

    while True:
        if at >= len(tokens) or sort_of(tokens[at]) != "NAME":
            return "bad text at {} {}".format(*refused(at))
        name = tokens[at]
        if name not in kinds or name in seen:
            return f"no input {name}"
        seen.append(name)
        if tokens[at + 1:at + 2] != ["="]:
            return "bad text at {} {}".format(*refused(at + 1))
        at += 2
        many = refused_at(kinds[name], tokens[at:])
        many = len(tokens) - at if many is None else many
        if refused_at(kinds[name], tokens[at:at + many]) is not None:
            return "bad text at {} {}".format(*refused(at + many))
        at += many
        if at == len(tokens) and not bad:
            return None
        if tokens[at:at + 1] != [";"]:
            return "bad text at {} {}".format(*refused(at))
        at += 1


class DrawnRefusalsTest(DeskCase):

    def test_what_is_wrong_first_in_drawn_rows_of_tokens(self):
        found = {}
        for seed in range(400):
            drawer = Drawer(seed)
            sheet = drawer.sheet(3, 2, 3)
            desk, model = Desk(), FromNothing()
            for each in (desk, model):
                each.say("sheet " + show_sheet(sheet))
            line = ""
            while not line.startswith(("set", "change")):
                line = drawn_line(drawer, model)
            order, _, rest = line.partition(" ")
            kinds = {cell[1]: cell[2] if order == "set" else oracle.changes(cell[2])
                     for cell in sheet if cell[0] == "input"}
            held = state(desk)
            for _ in range(12):
                row = Row(drawer, changed(drawer, TOKEN.findall(rest)))
                expected = told_first(row, kinds)
                if expected is not None:
                    with self.subTest(row.text):
                        self.assert_same(desk.say(f"{order} {row.text}"), (expected,))
                    found[expected[:3]] = found.get(expected[:3], 0) + 1
            self.assert_same(state(desk), held)
        self.assertGreater(found["bad"], 1000)
        self.assertGreater(found["no "], 50)

    def test_lines_of_any_sort(self):
        """Whatever a line is, it is answered by a tuple of texts."""
        words = ["sheet", "set", "change", "undo", "show", "text", "look", "hangs", "tell", "a", "b", "e", "by", "t", "=", ";",
                 "1", "-2", "()", "(", ")", "{", "}", ":", "left(1)", "right(())", "left(left(1))", "{1: 2}", "+", "*", ",", "fn x: num.",
                 "input", "cell", "num", " ", "\n", "#", "'", "!"]
        for seed in range(3000):
            drawer = Drawer(seed)
            desk = desk_with() if drawer.chance(80) else Desk()
            for _ in range(3):
                order = drawer.one_of(*words[:9]) + " " if drawer.chance(90) else ""
                line = order + " ".join(drawer.one_of(*words) for _ in range(drawer.random.randrange(8)))
                answer = desk.say(line)
                self.assertIs(type(answer), tuple)
                self.assertEqual([type(each) for each in answer], [str] * len(answer))


if __name__ == "__main__":
    unittest.main()
