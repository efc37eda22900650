"""[E5] and Keeper: edits and undos, what they tell, looked, calls and done."""

import copy
import unittest

from changewise.errors import InvalidEdit, NotData, NothingDone, UnknownName
from changewise.sheets import Keeper, edited, shown
from changewise.text import read_sheet
from tests import oracle
from tests.cases import Case, Stubborn, odd_things
from tests.drawing import Drawer

NUM, UNIT = ("num",), ("unit",)
BAG, STEP, SIDES = ("bag", NUM), ("fun", NUM, NUM), ("either", NUM, UNIT)

SHOP = read_sheet("""
input price: num = 3;
input sold: bag num = {1: 2, 5: 1};
input rebate: num | unit = right(());
cell by = fn x: num. x * price;
cell sum = total(by, sold);
cell least = case rebate {r. r; u. 0};
cell due = sum + -least;
cell asks = (by, sum);
""")
DEARER, MORE, REBATE = (("price", 1),), (("sold", ((5, 1),)),), (("rebate", ("right", ("left", 4))),)


def state(keeper):
    return keeper.shown(), keeper.sheet(), keeper.looked, keeper.calls, keeper.done


class KeeperTest(Case):

    def test_ahead_of_the_first_edit(self):
        keeper = Keeper(SHOP)
        self.assertEqual(keeper.shown(), (("price", 3), ("sold", ((1, 2), (5, 1))), ("rebate", ("right", ())),
                ("sum", 21), ("least", 0), ("due", 21)))
        self.assertEqual(keeper.sheet(), SHOP)
        self.assert_same((keeper.looked, keeper.calls, keeper.done), ((), 0, 0))
        self.assert_same([keeper.value(name) for name in ("price", "sold", "rebate", "sum", "least", "due")],
                [3, ((1, 2), (5, 1)), ("right", ()), 21, 0, 21])

    def test_an_edit(self):
        keeper = Keeper(sheet=SHOP)
        self.assert_same(keeper.edit(edit=DEARER), (("price", 1), ("sum", 7), ("due", 7)))
        self.assertEqual(keeper.looked, ("by", "sum", "due", "asks"))
        self.assertEqual(keeper.done, 1)
        self.assertGreater(keeper.calls, 0)
        self.assertEqual(keeper.sheet(), edited(SHOP, DEARER))
        self.assertEqual(keeper.shown(), shown(edited(SHOP, DEARER)))
        self.assert_same((keeper.value("price"), keeper.value("sum"), keeper.value(name="due")), (4, 28, 28))

    def test_what_is_told_is_settled(self):
        keeper = Keeper(SHOP)
        self.assertEqual(keeper.edit(REBATE), (("rebate", ("right", ("left", 4))), ("least", 4), ("due", -4)))
        self.assertEqual(keeper.edit((("rebate", ("right", ("left", 6))),)),
                (("rebate", ("left", ("left", 2))), ("least", 2), ("due", -2)))
        self.assertEqual(keeper.undo(), (("rebate", ("left", ("left", -2))), ("least", -2), ("due", 2)))
        self.assertEqual(keeper.undo(), (("rebate", ("right", ("right", ()))), ("least", -4), ("due", 4)))

    def test_each_undo_undoes_the_last_edit_that_is_not_undone(self):
        keeper = Keeper(SHOP)
        one = keeper.shown()
        keeper.edit(DEARER)
        two = keeper.shown()
        keeper.edit(MORE)
        three = keeper.shown()
        self.assertEqual(keeper.undo(), (("sold", ((5, -1),)), ("sum", -20), ("due", -20)))
        self.assertEqual((keeper.shown(), keeper.done), (two, 1))
        keeper.edit(MORE)
        self.assertEqual((keeper.shown(), keeper.done), (three, 2))
        keeper.edit(REBATE)
        self.assertEqual(keeper.done, 3)
        keeper.undo()
        self.assertEqual((keeper.shown(), keeper.done, keeper.looked), (three, 2, ("least", "due")))
        keeper.undo()
        keeper.undo()
        self.assertEqual((keeper.shown(), keeper.done, keeper.sheet()), (one, 0, SHOP))

    def test_an_edit_that_changes_nothing(self):
        for edit in ((), (("price", 0),), (("sold", ()),), (("rebate", ("left", ("right", ()))),),
                (("rebate", ("right", ("right", ()))),),
                     (("price", 0), ("sold", ()), ("rebate", ("right", ("right", ()))))):
            with self.subTest(edit):
                keeper = Keeper(SHOP)
                keeper.edit(DEARER)
                self.assertEqual(keeper.edit(edit), ())
                self.assert_same((keeper.looked, keeper.calls, keeper.done), ((), 0, 2))
                self.assertEqual(keeper.sheet(), edited(SHOP, DEARER))
                self.assertEqual(keeper.undo(), ())
                self.assert_same((keeper.looked, keeper.calls, keeper.done), ((), 0, 1))
                self.assertEqual(keeper.undo(), (("price", -1), ("sum", -7), ("due", -7)))

    def test_an_undo_where_nothing_is_done(self):
        keeper = Keeper(SHOP)
        self.assert_told(NothingDone, {}, keeper.undo)
        keeper.edit(DEARER)
        keeper.undo()
        held = state(keeper)
        self.assert_told(NothingDone, {}, keeper.undo)
        self.assertEqual(state(keeper), held)
        self.assert_told(NothingDone, {}, Keeper(()).undo)

    def test_the_properties_are_read_alone(self):
        keeper = Keeper(SHOP)
        for name in ("looked", "calls", "done"):
            self.assertIsInstance(vars(Keeper)[name], property)
            with self.assertRaises(AttributeError):
                setattr(keeper, name, 1)
        self.assert_same((keeper.looked, keeper.calls, keeper.done), ((), 0, 0))

    def test_two_keepers_go_their_own_ways(self):
        one, two = Keeper(SHOP), Keeper(SHOP)
        one.edit(DEARER)
        self.assertEqual(two.shown(), shown(SHOP))
        two.edit(MORE)
        self.assertEqual(one.sheet(), edited(SHOP, DEARER))
        self.assertEqual((one.done, two.done, two.looked), (1, 1, ("sum", "due", "asks")))

    def test_no_cells(self):
        keeper = Keeper(())
        self.assertEqual((keeper.shown(), keeper.sheet(), keeper.edit(()), keeper.done, keeper.looked),
                ((), (), (), 1, ()))

    def test_a_cell_that_shows_the_same_is_not_changed(self):
        sheet = read_sheet("""
            input n: num = 2; input m: num = 1;
            cell c = 0 * n + m; cell d = c + 1; cell s = n < 3; cell t = case s {u. 1; u. 2};""")
        keeper = Keeper(sheet)
        self.assertEqual(keeper.edit((("n", -1),)), (("n", -1),))
        self.assertEqual(keeper.looked, ("c", "s"))
        self.assertEqual(keeper.edit((("n", 7),)), (("n", 7), ("s", ("right", ("right", ()))), ("t", 1)))
        self.assertEqual(keeper.looked, ("c", "s", "t"))
        self.assertEqual(keeper.edit((("n", -1), ("m", 1))), (("n", -1), ("m", 1), ("c", 1), ("d", 1)))
        self.assertEqual(keeper.looked, ("c", "d", "s"))


class WordsTest(Case):
    """A cell of each word, kept up by changes of each name that it names, alone and together."""

    SHEET = read_sheet("""
input n: num = 2; input m: num = -3; input b: bag num = {1: 2, 2: 1, 3: -1}; input p: (num, bag num) = (1, {4: 1});
input e: num | unit = left(5); input s: unit | unit = left(()); input q: (num | unit, unit) = (right(()), ());
input v: bag (num | unit) = {left(1): 1};
cell f = fn x: num. x * n + m; cell g = fn x: num. fn y: num. x + y * n; cell h = fn k: num -> num. k(k(m));
cell w = (f, n);
cell o = case s {u. left(f, num); u. right(num -> num, n)};
cell tofun = (fn x: num. f(x + n), g(m));
""")
    TERMS = (
        "n", "b", "e", "s", "fn x: num. x + n", "f(n)", "f(3)", "g(n)(m)", "h(f)", "h(g(n))", "h(fn x: num. x * m)",
        "let x = n * m in x + x * n", "let n = m in n", "let x = f in x(x(n))", "let k = 3 in k * n",
        "n + m", "b + b", "p + (n, b)", "-n", "-b", "-p", "n * m", "n * n * m * m", "2 * n", "n * 2", "(n, b)",
        "first(p)", "second(p)", "first(w)(n)", "second(w)", "left(n, unit)", "right(unit, n)", "left(f, unit)",
        "case e {x. x + n; u. m}", "case e {x. x; u. 0}", "case 1 < 2 {u. n; u. m}",
        "case e {x. left(x * n, num); u. right(num, n)}", "case s {u. f; u. fn x: num. n}",
        "case s {u. f; u. fn x: num. n}", "case e {n. n; u. 7}",
        "case o {k. k(n); x. x}", "case first(q) {x. x; u. n}", "case e {x. e; u. left(n, unit)}",
        "case left(n, unit) {x. x * m; u. 0}", "case right(num, ()) {x. x; u. n}", "n < m", "n <= 2", "2 == n",
        "n * n == m + 7",
        "one(n)", "one((n, m))", "one(e)", "one(first(q))", "total(f, b)", "total(fn x: num. x, b)",
        "total(fn x: num. one(x * n), b)", "total(fn x: num. (x, one(n)), b)", "total(g(n), b)",
        "total(first(w), one(n) + b)", "total(fn x: num. b, b)",
        "total(fn x: num | unit. case x {y. y * n; u. m}, v)", "total(fn x: num. total(fn y: num. x * y * n, b), b)",
        "total(fn x: num. count(b, x), b)", "count(b, n)", "count(b, 1)", "count(v, e)", "count(v, first(q))",
        "support(b)", "support(b + -one(n))",
        "support(support(b) + b)", "(fn x: num. x * n)(m)", "(fn x: num | unit. case x {y. y; u. n})(e)",
        "(fn k: num -> num. fn x: num. k(x) + n)(f)(m)", "(fn k: (num -> num) -> num. k(f))(h)", "first(tofun)(n)",
        "second(tofun)(n)", "let w = w in first(w)(second(w))",
        "(left(n, num), right(num, m))", "let x = e in case x {y. case e {z. y * z; u. y}; u. n}", "zero(num) + n",
        "total(fn x: num. first((f, x))(x), b)", "let t = fn x: num. x * n in total(t, b) + t(m)",
    )
    EDITS = (
        ("n", 1), ("n", -4), ("n", 0), ("m", 5), ("m", 3), ("b", ((1, -2), (7, 1))), ("b", ((2, -1), (3, 2))),
        ("p", ("pair", 2, ((4, -1),))), ("e", ("left", ("left", -5))), ("e", ("right", ("right", ()))),
        ("e", ("right", ("left", 2))),
        ("e", ("right", ("left", 5))), ("s", ("right", ("right", ()))), ("s", ("left", ("left", ()))),
        ("q", ("pair", ("right", ("left", 1)), ())), ("q", ("pair", ("left", ("right", ())), ())),
        ("v", ((("left", 1), 1), (("right", ()), -2))),
    )

    def check(self, term, edits):
        sheet = self.SHEET + read_cells(term)
        names = [cell[1] for cell in sheet]
        edit = tuple(sorted(edits, key=lambda pair: names.index(pair[0])))
        keeper = Keeper(sheet)
        self.assertEqual(keeper.shown(), oracle.shown(sheet))
        self.assertEqual(keeper.edit(edit), oracle.told(sheet, edit))
        self.assertEqual(keeper.looked, oracle.looked_at(sheet, edit))
        self.assertEqual(keeper.shown(), oracle.shown(edited(sheet, edit)))
        keeper.undo()
        self.assertEqual(keeper.shown(), oracle.shown(sheet))

    def test_one_input_changed(self):
        for term in self.TERMS:
            for edit in self.EDITS:
                with self.subTest(term, edit=edit):
                    self.check(term, (edit,))

    def test_several_inputs_changed(self):
        for at, term in enumerate(self.TERMS):
            drawer = Drawer(at)
            for _ in range(4):
                edits = {name: change for name, change in drawer.random.sample(self.EDITS, 4)}
                with self.subTest(term, edits=edits):
                    self.check(term, tuple(edits.items()))


def read_cells(term):
    """A cell c of the text of a term, and cells that name it."""
    # A text of cells is read only behind cells that have the names that stand in it.
    ahead = "".join(f"cell {name} = 1;" for name in "n m b p e s q v f g h w o tofun".split())
    return read_sheet(f"{ahead} cell c = {term}; cell d = c; cell z = (c, ());")[-3:]


class CallsTest(Case):
    """[B3] and the calls of an edit of a sheet whose terms are all adding."""

    def calls_told(self, sheet, edit):
        """The calls of reckoning the terms looked at once, with changes for values, zero for what has not changed."""
        kinds, calls = oracle.kinds_of_sheet(sheet), oracle.Calls()
        told = dict(oracle.told(sheet, edit))
        groups = [name for name in kinds if oracle.is_group(kinds[name])]
        changes = {name: told[name] if name in told else oracle.zero(kinds[name]) for name in groups}
        for cell in sheet:
            if cell[1] in oracle.looked_at(sheet, edit):
                oracle.meaning(kinds, changes, cell[2], calls)
        return calls.made

    def check(self, sheet, edit, made=None):
        keeper = Keeper(sheet)
        keeper.edit(edit)
        self.assertEqual(keeper.calls, self.calls_told(sheet, edit))
        if made is not None:
            self.assert_same(keeper.calls, made)
        self.assertEqual(keeper.shown(), oracle.shown(edited(sheet, edit)))
        keeper.undo()
        self.assertEqual(keeper.calls, made if made is not None else self.calls_told(sheet, edit))
        self.assertEqual(keeper.shown(), oracle.shown(sheet))

    def adding(self, bag):
        return read_sheet(f"""
input b: bag num = {bag}; input n: num = 3; input c: bag num = {{2: 1}}; input u: unit | unit = left(());
cell s = total(fn x: num. x * x, b);
cell o = total(fn x: num. one(x * 2), b);
cell k = o + -b + c;
cell l = 3 * s + n + 2 * n;
cell p = (total(fn x: num. (x, one(x)), k), zero(bag unit));
cell q = first(first(p)) + second((s, n));
cell r = total(fn x: num. (fn y: num. (fn z: num. z)(y) + x)(x), b) + total(fn x: num. x, c);
cell t = total(fn x: num. total(fn y: num. x * y, one(x) + one(1)), total(fn x: num. one(x + 1), b));
""")

    def test_a_total_asks_of_the_changed_things_alone(self):
        for many in (0, 1, 10, 1000, 3000):
            bag = "{" + ", ".join(f"{at}: {at + 1}" for at in range(many)) + "}"
            sheet = read_sheet(f"""
                input b: bag num = {bag};
                cell s = total(fn x: num. x * x, b);
                cell t = s + total(fn x: num. (fn y: num. y)(x), b);""")
            for edit, made in (((("b", ((1, 1),)),), 3), ((("b", ((1, -2), (7, 3))),), 6),
                    ((("b", ((-5, 1), (-4, 1), (-3, 100))),), 9), ((("b", ()),), 0)):
                with self.subTest(many=many, edit=edit):
                    self.check(sheet, edit, made)

    def test_what_is_changed_by_many_times_is_asked_once(self):
        sheet = read_sheet("input b: bag num = {1: 1}; cell s = total(fn x: num. x, b);")
        self.check(sheet, (("b", ((1, 10 ** 30),)),), 1)

    def test_adding_sheets(self):
        for bag in ("{}", "{1: 1}", "{-2: 5, 0: 1, 3: -4}", "{" + ", ".join(f"{at}: 1" for at in range(1, 30)) + "}"):
            sheet = self.adding(bag)
            for edit in ((), (("n", 1),), (("b", ((3, 1),)),), (("b", ((0, 1),)),), (("c", ((5, 2), (6, -2))),),
                    (("b", ((1, 1), (2, -1), (4, 7))), ("n", -3)), (("b", ((9, 1),)), ("n", 1), ("c", ((9, -1),))),
                         (("u", ("right", ("right", ()))),), (("b", ((3, 1),)), ("u", ("left", ("left", ())))),
                         (("b", ((2, 1), (5, -2))), ("c", ((4, 1),)))):
                with self.subTest(bag[:20], edit=edit):
                    self.check(sheet, edit)

    def test_drawn_adding_sheets(self):
        for seed in range(60):
            drawer = Drawer(seed)
            sheet, kinds = [], {}
            for at in range(3):
                kind = drawer.group_kind(3)
                sheet.append(("input", f"i{at}", kind, drawer.value(kind)))
                kinds[f"i{at}"] = kind
            for at in range(5):
                kind = drawer.group_kind(2)
                sheet.append(("cell", f"c{at}", self.adding_term(drawer, kinds, kind, 4)))
                kinds[f"c{at}"] = kind
            sheet = tuple(sheet)
            for _ in range(3):
                edit = drawer.edit(sheet)
                with self.subTest(seed, edit=edit):
                    self.check(sheet, edit)

    def adding_term(self, drawer, kinds, kind, depth):
        names = [name for name in kinds if kinds[name] == kind]
        if depth <= 1:
            return ("name", drawer.one_of(*names)) if names else ("zero", kind)
        inner = lambda other: self.adding_term(drawer, kinds, other, depth - 1)
        deed = drawer.one_of("name", "plus", "minus", "first", "second", "total", "total", "pair", "times")
        if deed == "plus":
            return ("plus", inner(kind), inner(kind))
        if deed == "minus":
            return ("minus", inner(kind))
        if deed == "first":
            return ("first", inner(("pair", kind, drawer.group_kind(2))))
        if deed == "second":
            return ("second", inner(("pair", drawer.group_kind(2), kind)))
        if deed == "total":
            plain = drawer.plain_kind(2)
            return ("total", ("fn", "x", plain, drawer.term((("x", plain),), kind, 3)), inner(("bag", plain)))
        if deed == "pair" and kind[0] == "pair":
            return ("pair", inner(kind[1]), inner(kind[2]))
        if deed == "times" and kind == NUM:
            return ("times", ("number", drawer.number()), inner(NUM))
        return self.adding_term(drawer, kinds, kind, 1)

    def test_no_cell_looked_at_makes_no_calls(self):
        sheet = read_sheet("input a: num = 1; input b: num = 1; cell f = fn x: num. x + b; cell c = f(f(b));")
        keeper = Keeper(sheet)
        keeper.edit((("b", 1),))
        self.assertGreater(keeper.calls, 0)
        keeper.edit((("a", 5),))
        self.assert_same((keeper.looked, keeper.calls), ((), 0))
        keeper.undo()
        self.assert_same((keeper.looked, keeper.calls), ((), 0))
        keeper.undo()
        self.assertGreater(keeper.calls, 0)

    def test_calls_are_those_of_the_last_edit_alone(self):
        sheet = read_sheet("input b: bag num = {1: 1, 2: 1}; cell s = total(fn x: num. x, b);")
        keeper = Keeper(sheet)
        for change, made in ((((1, 1),), 1), (((1, 1), (2, 1), (3, 1)), 3), ((), 0), (((9, 9), (10, 9)), 2)):
            keeper.edit((("b", change),))
            self.assert_same(keeper.calls, made)
        for made in (2, 0, 3, 1):
            keeper.undo()
            self.assert_same(keeper.calls, made)

    def test_a_sheet_of_data_is_kept_without_reckoning_it_anew(self):
        # From nothing it takes 2000 calls.
        bag = "{" + ", ".join(f"{at}: 1" for at in range(2000)) + "}"
        keeper = Keeper(read_sheet(f"input b: bag num = {bag}; cell f = fn x: num. x * 2; cell s = total(f, b);"))
        keeper.edit((("b", ((7, 1),)),))
        self.assert_same((keeper.calls, keeper.value("s")), (1, 1999 * 2000 + 14))


class DeepMeaningsTest(Case):

    def test_functions_that_call_one_another(self):
        rows = [f"cell f{at} = fn x: num. f{at - 1}(x + 1);" for at in range(1, 20)]
        text = "input a: num = 1; cell f0 = fn x: num. x + a;" + "".join(rows) + "cell c = f19(a);"
        keeper = Keeper(read_sheet(text))
        self.assertEqual(keeper.value("c"), 21)
        self.assertEqual(keeper.edit((("a", 4),)), (("a", 4), ("c", 8)))
        self.assertEqual(keeper.shown(), shown(keeper.sheet()))

    def test_functions_handed_on_to_one_another(self):
        rows = ["input a: num = 1;", "cell f = fn x: num. x + a;",
                "cell t = fn k: num -> num. fn x: num. k(k(x));"] + [
            f"cell g{at} = t({'f' if at == 0 else f'g{at - 1}'});" for at in range(5)] + ["cell c = g4(a);"]
        keeper = Keeper(read_sheet("".join(rows)))
        self.assertEqual(keeper.value("c"), 33)
        self.assertEqual(keeper.edit((("a", 1),)), (("a", 1), ("c", 33)))
        self.assertEqual(keeper.undo(), (("a", -1), ("c", -33)))

    def test_products_of_products(self):
        keeper = Keeper(read_sheet("input a: num = 2; cell c = " + " * ".join("a" * 12) + ";"))
        self.assertEqual(keeper.edit((("a", 1),)), (("a", 1), ("c", 3 ** 12 - 2 ** 12)))

    def test_kinds_six_deep(self):
        kind = "unit" + " | num" * 4
        value = "left(" * 3 + "right(3)" + ")" * 3
        sheet = read_sheet(f"""
            input e: {kind} = {value};
            cell f = fn x: ({kind}). x;
            cell d = f(e);
            cell t = fn k: ({kind}) -> {kind}. k(e);
            cell u = t(f);""")
        change = ("left", ("right", 4))
        for _ in range(3):
            change = ("left", ("left", change))
        for edit in ((("e", change),), (("e", ("right", ("right", 7))),)):
            keeper = Keeper(sheet)
            told = keeper.edit(edit)
            self.assertEqual([name for name, _ in told], ["e", "d", "u"])
            self.assertEqual(keeper.shown(), oracle.shown(keeper.sheet()))
            self.assertEqual(keeper.value("u"), keeper.value("e"))

    def test_long_rows_of_edits(self):
        keeper = Keeper(SHOP)
        for at in range(300):
            keeper.edit((("price", at % 5 - 2), ("sold", ((at % 7, 1),))))
        self.assertEqual(keeper.shown(), oracle.shown(keeper.sheet()))
        self.assertEqual(keeper.done, 300)
        while keeper.done:
            keeper.undo()
        self.assertEqual((keeper.shown(), keeper.sheet()), (shown(SHOP), SHOP))


class WrongArgumentsTest(Case):

    def test_unknown_names(self):
        keeper = Keeper(SHOP)
        for thing in odd_things() + ["", "x", "prices", "price'", ("price",), ["price"], {"price": 1}, 0, Stubborn()]:
            self.assert_told(UnknownName, {"given": thing}, keeper.value, thing)
            self.assert_told(UnknownName, {"given": thing}, keeper.value, name=thing)

    def test_cells_of_no_data_kind(self):
        keeper = Keeper(SHOP)
        for name, kind in (("by", STEP), ("asks", ("pair", STEP, NUM))):
            with self.assertRaises(NotData) as caught:
                keeper.value(name)
            self.assertEqual(caught.exception.kind, kind)

    def test_behind_an_error_a_keeper_is_as_it_was(self):
        keeper = Keeper(SHOP)
        keeper.edit(DEARER)
        keeper.edit(REBATE)
        held = copy.deepcopy(state(keeper))
        for edit, index in ((None, None), ([], None), ((("price", 1), None), 1), ((("price", 1), ("sold", 1)), 1),
                ((("price", 1), ("rebate", ("left", ("right", ())))), 1), ((("sold", ()), ("price", 1)), 1),
                ((("by", 1),), 0)):
            self.assert_told(InvalidEdit, {"index": index}, keeper.edit, edit)
            self.assertEqual(state(keeper), held)
        for name in (None, "x", "by"):
            self.assertRaises(ValueError, keeper.value, name)
            self.assertEqual(state(keeper), held)
        self.assertEqual(keeper.undo(), (("rebate", ("right", ("right", ()))), ("least", -4), ("due", 4)))

    def test_an_edit_is_one_of_the_sheet_as_it_is_now(self):
        keeper = Keeper(SHOP)
        up = (("rebate", ("left", ("left", 1))),)
        self.assert_told(InvalidEdit, {"index": 0}, keeper.edit, up)
        keeper.edit(REBATE)
        self.assertEqual(keeper.edit(up), (("rebate", ("left", ("left", 1))), ("least", 1), ("due", -1)))
        keeper.undo()
        keeper.undo()
        self.assert_told(InvalidEdit, {"index": 0}, keeper.edit, up)

    def test_what_was_passed_is_as_it_was(self):
        edit = (("price", 1), ("sold", ((5, 1),)))
        held = copy.deepcopy((SHOP, edit))
        keeper = Keeper(SHOP)
        keeper.edit(edit)
        keeper.undo()
        self.assert_same((SHOP, edit), held)


if __name__ == "__main__":
    unittest.main()
