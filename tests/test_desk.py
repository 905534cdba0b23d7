import unittest

from drawn import Chance
from outsigns.closings import Closing, open_net
from outsigns.counting import count_drawings
from outsigns.desk import Desk
from outsigns.drawings import drawing, has_drawing, least_break
from outsigns.errors import CommandFailed, InvalidCommand, InvalidLink, InvalidRow, LinkTaken, NoDrawing
from outsigns.errors import NothingToUndo, TooMany, UnknownLink, UnknownName, UnknownNode
from outsigns.nets import Net
from outsigns.rows import Rows
from outsigns.walking import walk
from refusals import Refusals
from values import NOT_LINKS, NOT_LISTS, NOT_NAMES, many_names

KITE = Net.ring("a", "b", "c", "d") + ("a", "c")
FOUR = Net.full("a", "b", "c", "d")
KITE_COMMANDS = ["net kite a b c d", "link kite a b", "link kite c b", "link kite c d", "link kite a d", "link kite c a"]
WORDS = ["net", "link", "cut", "draw", "row", "undo", "drawn", "count", "good", "walk", "show"]


def told(desk):
    """All that a desk tells of itself."""
    nets, rows = desk.names()
    return [desk.names(), desk.log(), [desk.net_of(name) for name in nets], [desk.rows_of(name) for name in rows]]


def made(*commands):
    desk = Desk()
    desk.do_all(*KITE_COMMANDS, *commands)
    return desk


def drawn_command(chance):
    """A command, often one that can be performed."""
    name, rows = chance.pick(["n", "net", "kite"]), chance.pick(["n", "r", "row"])
    nodes = chance.shuffled("abcde")
    kind = chance.below(14)
    if kind == 0:
        return " ".join(["net", name, *nodes[:1 + chance.below(5)]])
    if kind < 5:
        return f"link {name} {nodes[0]} {nodes[1]}"
    if kind == 5:
        return f"cut {name} {nodes[0]} {nodes[1]}"
    if kind < 8:
        return f"draw {rows} {name}"
    if kind == 8:
        return " ".join(["row", rows, *nodes[:1 + chance.below(4)]])
    if kind == 9:
        return "undo"
    if kind == 10:
        return f"{chance.pick(['drawn', 'count', 'show'])} {name}"
    if kind == 11:
        return f"good {rows}"
    links = [f"{nodes[at]}-{nodes[by]}" for at, by in ((0, 1), (2, 0), (1, 2))][:chance.below(4)]
    return " ".join(["walk", rows, chance.pick(nodes), *links])


def plain_answer(desk, command):
    """The answer to a command that changes nothing, by the functions of the package."""
    word, name, *rest = command.split()
    if word == "drawn":
        return "yes" if has_drawing(desk.net_of(name)) else "no"
    if word == "count":
        return str(count_drawings(desk.net_of(name)))
    if word == "show":
        return str(Closing.all_of(desk.net_of(name)))
    rows = desk.rows_of(name)
    if word == "good":
        found = least_break(rows)
        return "yes" if found is None else "no " + str(found)
    lead, loop = walk(rows.signs(), Closing([tuple(link.split("-")) for link in rest[1:]]), rest[0])
    return " ".join(lead) + " /" + "".join(" " + node for node in loop)


class Plain:
    """A desk by [93], in the plainest way: it makes everything anew from the commands that are not taken back."""

    def __init__(self):
        self.commands = []

    def state(self):
        nets, rows = {}, {}
        for command in self.commands:
            word, name, *rest = command.split()
            if word == "net":
                nets[name] = Net(rest)
            elif word == "link":
                nets[name] = nets[name] + tuple(rest)
            elif word == "cut":
                nets[name] = nets[name] - tuple(rest)
            elif word == "draw":
                rows[name] = drawing(nets[rest[0]])
            else:
                rows[name] = Rows(rows[name].net, {**rows[name].as_dict(), rest[0]: rest[1:]})
        return [(sorted(nets), sorted(rows)), self.commands, [nets[name] for name in sorted(nets)],
                [rows[name] for name in sorted(rows)]]


class CommandsTest(Refusals):
    def test_example(self):
        desk = Desk()
        for command in KITE_COMMANDS:
            self.assertEqual(desk.do(command), "done")
        self.assertEqual(desk.net_of("kite"), KITE)
        for command, answer in [("draw r kite", "done"), ("show kite", "a-b a-c a-d b-c c-d"), ("drawn kite", "yes"),
                                ("count kite", "2"), ("good r", "yes"), ("walk r c", "c / d a b c"),
                                ("walk r c b-c", "c / d a b a c"), ("walk r c c-b d-c a-c", "c /"),
                                ("link kite b d", "done"), ("drawn kite", "no"), ("count kite", "0"), ("good r", "yes"),
                                ("row r a c b d", "done"), ("good r", "no " + str(least_break(desk_rows()))),
                                ("undo", "done"), ("good r", "yes"), ("undo", "done"), ("count kite", "2"),
                                ("net kite x", "done"), ("show kite", "-"), ("walk r b", "b / c d a b"),
                                ("draw kite kite", "done"), ("walk kite x", "x /"), ("undo", "done")]:
            self.assertEqual(desk.do(command=command), answer, command)
        self.assertEqual(desk.names(), (["kite"], ["r"]))
        self.assertEqual(desk.log(), [*KITE_COMMANDS, "draw r kite", "net kite x"])

    def test_drawn_commands(self):
        seen = {}
        for seed in range(60):
            chance, desk, plain = Chance(seed), Desk(), Plain()
            if seed % 2:
                plain.commands += ["net n a b c d", *[f"link n {one} {other}" for one, other in FOUR.links()]]
                desk.do_all(*plain.commands)
            for command in [drawn_command(chance) for _ in range(60)]:
                before = told(desk)
                try:
                    answer = desk.do(command)
                except Exception as error:
                    seen[type(error)] = seen.get(type(error), 0) + 1
                    self.assertEqual(told(desk), before)
                    continue
                word = command.split()[0]
                seen[word] = seen.get(word, 0) + 1
                if word == "undo":
                    plain.commands.pop()
                elif word in WORDS[:5]:
                    plain.commands.append(command)
                else:
                    self.assertEqual(told(desk), before)
                    self.assertEqual(answer, plain_answer(desk, command))
                    continue
                self.assertEqual(answer, "done")
                self.assertEqual(told(desk), plain.state())
            other = Desk()
            self.assertEqual(other.do_all(*desk.log()), ["done"] * len(desk.log()))
            self.assertEqual(told(other), told(desk))
            for _ in desk.log():
                desk.do("undo")
            self.assertEqual(told(desk), told(Desk()))
            self.refused(NothingToUndo, {}, lambda: desk.do("undo"))
        for kind in [*WORDS, NoDrawing, UnknownName, UnknownNode, UnknownLink, InvalidLink, LinkTaken, InvalidRow,
                     NothingToUndo]:
            self.assertGreater(seen.get(kind, 0), 2, kind)
        self.assertEqual(set(seen) - set(WORDS), {NoDrawing, UnknownName, UnknownNode, UnknownLink, InvalidLink,
                                                   LinkTaken, InvalidRow, NothingToUndo})

    def test_one_name_for_both(self):
        desk = made("draw kite kite", "row kite b a c", "cut kite c a")
        self.assertEqual(desk.names(), (["kite"], ["kite"]))
        self.assertEqual(desk.net_of("kite"), KITE - ("a", "c"))
        self.assertEqual(desk.rows_of("kite"), Rows(KITE, {**drawing(KITE).as_dict(), "b": ["a", "c"]}))
        self.assertEqual([desk.do("show kite"), desk.do("walk kite b c-a")], ["a-b a-d b-c c-d", "b / a d c b"])

    def test_words_of_commands_are_names(self):
        desk = Desk()
        for word in WORDS:
            desk.do(f"net {word} net row undo {word if word not in ('net', 'row', 'undo') else 'good'}")
            desk.do(f"link {word} undo net")
            desk.do(f"draw {word} {word}")
            self.assertEqual([desk.do(f"good {word}"), desk.do(f"walk {word} net"), desk.do(f"walk {word} net undo-net")],
                             ["yes", "net / undo net", "net /"])
        self.assertEqual(desk.names(), (sorted(WORDS), sorted(WORDS)))

    def test_rows_stay_those_of_their_net(self):
        desk = made("draw r kite", "cut kite a c", "link kite b d", "net other a")
        self.assertEqual([desk.rows_of("r"), desk.rows_of("r").net], [drawing(KITE), KITE])
        desk.do_all("net kite a", "draw s kite", "undo")
        self.assertEqual([desk.do("walk r a c-a"), desk.names()], ["a / b c d a", (["kite", "other"], ["r"])])

    def test_many_neighbours(self):
        desk = Desk()
        names = many_names(59)
        desk.do_all("net n hub " + " ".join(names), *[f"link n hub {name}" for name in names], "draw r n")
        self.assertEqual(desk.do("walk r aa"), "aa / hub " + " hub ".join([*names[1:], "aa"]))
        self.assertEqual([desk.do("good r"), len(desk.do("count n"))], ["yes", 81])
        self.assertEqual(desk.do("walk r ab " + " ".join(f"{name}-hub" for name in names[2:])), "ab / hub aa hub ab")


def desk_rows():
    return Rows(KITE, {**drawing(KITE).as_dict(), "a": ["c", "b", "d"]})


class ErrorsTest(Refusals):
    def fails(self, desk, command, error, **attributes):
        before = told(desk)
        self.refused(error, attributes, lambda: desk.do(command))
        self.assertEqual(told(desk), before)

    def test_no_commands(self):
        desk = made("draw r kite")
        right = [*KITE_COMMANDS, "net kite x", "cut kite a b", "draw r kite", "row r b c a", "undo", "drawn kite",
                 "count kite", "good r", "walk r a", "walk r a a-b c-b", "show kite"]
        wrong = ["", " ", "a", "kite", "Net kite a", "NET kite a", "nets kite a", "net", "net kite", "link kite a", "link",
                 "link kite a b c", "link kite a a", "link kite", "cut kite b b", "cut kite a", "cut kite a b c", "draw r",
                 "draw r kite a", "draw", "row r", "row", "row r b b", "row r b a c a", "row r b c c", "undo undo", "undo a",
                 "drawn", "drawn kite kite", "count", "count kite a", "good", "good r r", "walk r", "walk", "walk r a b",
                 "walk r a a-a", "walk r a a-b b-a", "walk r a a-b a-b", "walk r a a-b-c", "walk r a -b", "walk r a a-",
                 "walk r a -", "walk r a ab", "walk r a A-b", "walk r a a-b,", "walk r a-b", "walk r a abcdefghi-b",
                 "show", "show kite r", "net kite a a", "net kite a b a", "net abcdefghi a", "net kite abcdefghi",
                 "net kite A", "net k1 a", "net kite a-b", "good R", "row r b a-c", "undo\n", "draw r kite\n",
                 "\nundo", "net kite\na", "walk r a b-a c", "walk r a a b", "done", "log", "walk r a b--a",
                 "walk R a", "walk abcdefghi a", "walk r- a", "walk r A", "draw R kite", "draw r Kite", "draw r1 kite",
                 "draw r abcdefghi", "draw abcdefghi kite", "drawn Kite", "count k-", "show abcdefghi", "link K a b"]
        for command in right:
            for value in (command + " ", " " + command, command.replace(" ", "  ", 1) + ("  " if command == "undo" else ""),
                          command.upper(), command + "\n", command.replace(" ", "\n", 1) + "\n"):
                wrong.append(value)
        for command in [*wrong, *NOT_LISTS, *NOT_LINKS, [], ["undo"], ("undo",), b"undo", KITE, Desk, None]:
            self.fails(desk, command, InvalidCommand, value=command)
        for command in NOT_NAMES:
            self.fails(desk, command, InvalidCommand, value=command)

    def test_unknown_names(self):
        desk = made("draw r kite")
        for command, name in [("link r a b", "r"), ("link x a q", "x"), ("cut x q p", "x"), ("draw kite r", "r"),
                              ("draw x x", "x"), ("row kite a", "kite"), ("row x q", "x"), ("drawn r", "r"),
                              ("count r", "r"), ("good kite", "kite"), ("walk kite q", "kite"), ("walk x a q-p", "x"),
                              ("show r", "r"), ("show abcdefgh", "abcdefgh")]:
            self.fails(desk, command, UnknownName, value=name)
        for value in [*NOT_NAMES, "r", "x"]:
            self.refused(UnknownName, {"value": value}, lambda: desk.net_of(value))
        for value in [*NOT_NAMES, "kite", "x"]:
            self.refused(UnknownName, {"value": value}, lambda: desk.rows_of(value))
        self.assertEqual([desk.net_of(name="kite"), desk.rows_of(name="r")], [KITE, drawing(KITE)])

    def test_errors_of_the_commands(self):
        desk = made("draw r kite", "net four a b c d", *[f"link four {one} {other}" for one, other in
                                                         FOUR.links()])
        for command, error, attributes in [
                ("link kite a q", InvalidLink, {"value": ("a", "q")}), ("link kite q a", InvalidLink, {"value": ("q", "a")}),
                ("link kite a c", LinkTaken, {"value": ("a", "c")}), ("link kite c a", LinkTaken, {"value": ("c", "a")}),
                ("cut kite b d", UnknownLink, {"value": ("b", "d")}), ("cut kite d b", UnknownLink, {"value": ("d", "b")}),
                ("cut kite q a", UnknownLink, {"value": ("q", "a")}), ("draw x four", NoDrawing, {}),
                ("row r q", UnknownNode, {"value": "q"}), ("row r q a b", UnknownNode, {"value": "q"}),
                ("row r b a", InvalidRow, {"node": "b"}), ("row r b", InvalidRow, {"node": "b"}),
                ("row r b a q", InvalidRow, {"node": "b"}), ("row r b a c d", InvalidRow, {"node": "b"}),
                ("walk r q a-b", UnknownNode, {"value": "q"}), ("walk r q d-b", UnknownNode, {"value": "q"}),
                ("walk r a d-b", UnknownLink, {"value": ("b", "d")}), ("walk r a q-p b-d a-b", UnknownLink, {"value": ("b", "d")}),
                ("walk r a q-p a-b z-d", UnknownLink, {"value": ("d", "z")})]:
            self.fails(desk, command, error, **attributes)
        self.assertEqual([desk.do("drawn four"), desk.do("count four")], ["no", "0"])
        self.fails(Desk(), "undo", NothingToUndo)

    def test_limits(self):
        desk = Desk()
        names = many_names(61)
        self.assertEqual(desk.do("net n " + " ".join(names[:60])), "done")
        self.fails(desk, "net n " + " ".join(names), TooMany, what="nodes", limit=60)
        self.fails(desk, "net m " + " ".join(names), TooMany, what="nodes", limit=60)
        self.fails(desk, "net m " + " ".join([*names, "aa"]), InvalidCommand, value="net m " + " ".join([*names, "aa"]))
        pairs = [(one, other) for at, one in enumerate(names[:17]) for other in names[at + 1:17]]
        desk.do_all(*[f"link n {one} {other}" for one, other in pairs[:120]])
        self.fails(desk, f"link n {names[40]} {names[41]}", TooMany, what="links", limit=120)
        self.fails(desk, f"link n {names[0]} {names[1]}", LinkTaken, value=(names[0], names[1]))
        self.fails(desk, f"link n {names[60]} {names[1]}", InvalidLink, value=(names[60], names[1]))
        self.fails(desk, "draw n n", NoDrawing)
        desk.do_all("net m " + " ".join(names[:60]), "draw r m")
        links = " ".join(f"{one}-{other}" for one, other in pairs[:121])
        self.fails(desk, "walk r aa " + links, UnknownLink, value=pairs[0])
        self.fails(desk, "walk r zz " + links, UnknownNode, value="zz")


class UndoTest(Refusals):
    def test_what_stood_for_something_new(self):
        desk = made("draw r kite")
        before = told(desk)
        for commands in (["net kite x y"], ["net other x"], ["draw r kite"], ["draw s kite"], ["row r b a c"],
                         ["cut kite a b"], ["link kite b d"], ["net kite x", "draw r kite", "draw s kite", "link kite a x"]):
            if commands[-1] == "link kite a x":
                commands = commands[:-1] + ["net kite a x", "link kite x a"]
            desk.do_all(*commands)
            self.assertNotEqual(told(desk), before)
            desk.do_all(*["undo" for _ in commands])
            self.assertEqual(told(desk), before)

    def test_undo_is_not_undone(self):
        desk = made("cut kite a b", "undo", "cut kite a c", "undo", "undo")
        self.assertEqual([desk.net_of("kite"), desk.log()], [KITE - ("a", "c"), KITE_COMMANDS[:-1]])

    def test_questions_are_not_noted(self):
        desk = made("draw r kite", "good r", "walk r a", "show kite", "count kite", "drawn kite", "undo")
        self.assertEqual([desk.names(), desk.log()], [(["kite"], []), KITE_COMMANDS])


class CopiesTest(Refusals):
    def test_do_all(self):
        desk = Desk()
        self.assertEqual(desk.do_all(), [])
        self.assertEqual(desk.do_all("net n a b", "show n", "link n b a", "show n"), ["done", "-", "done", "a-b"])
        before = told(desk)
        for commands, position, kind in [(["net n a", "undo", "undo", "undo", "undo", "show n"], 4, NothingToUndo),
                                         (["cut n a b", "cut n a b"], 1, UnknownLink), (["x"], 0, InvalidCommand),
                                         (["net m a", "draw r m", "draw r n", None, "undo"], 3, InvalidCommand),
                                         (["net n q", "draw r n", "good x"], 2, UnknownName),
                                         (["net n " + " ".join(many_names(61))], 0, TooMany)]:
            with self.assertRaises(CommandFailed) as caught:
                desk.do_all(*commands)
            self.assertEqual(vars(caught.exception), {"position": position})
            self.assertIs(type(caught.exception.__cause__), kind)
            self.assertEqual(told(desk), before)
        desk.do("undo")
        self.assertEqual([desk.do("show n"), desk.log()], ["-", ["net n a b"]])

    def test_trial(self):
        desk = made("draw r kite")
        before = told(desk)
        with desk.trial() as other:
            self.assertIs(type(other), Desk)
            self.assertIsNot(other, desk)
            self.assertEqual(told(other), before)
            other.do_all("undo", "cut kite a b", "net x y", "draw x x")
            self.assertEqual(told(desk), before)
            desk.do("net z z")
            kept = told(other)
        self.assertEqual([told(other), desk.names()], [kept, (["kite", "z"], ["r"])])
        with self.assertRaises(KeyError):
            with desk.trial() as other:
                other.do("undo")
                raise KeyError("a")
        self.assertEqual(desk.log()[-1], "net z z")
        with desk.trial() as one, desk.trial() as two:
            one.do("net one a")
            self.assertEqual(two.names(), (["kite", "z"], ["r"]))

    def test_tried(self):
        desk = made()
        before = told(desk)
        self.assertEqual(desk.tried(lambda other: (other.do("net x y"), other.names())), ("done", (["kite", "x"], [])))
        self.assertIs(desk.tried(action=lambda other: None), None)
        self.assertIs(type(desk.tried(lambda other: other)), Desk)
        self.refused(UnknownName, {"value": "y"}, lambda: desk.tried(lambda other: other.do("show y")))
        with self.assertRaises(KeyError):
            desk.tried(lambda other: {}[other.do("undo")])
        self.assertEqual(told(desk), before)

    def test_attempt(self):
        desk = made()
        before = told(desk)
        self.assertEqual(desk.attempt("undo", "draw r kite", "walk r a", "good r"), ["done", "done", "a / b c d a", "yes"])
        self.assertEqual([desk.attempt(), told(desk)], [[], before])
        with self.assertRaises(CommandFailed) as caught:
            desk.attempt("undo", "draw r x")
        self.assertEqual([vars(caught.exception), type(caught.exception.__cause__)], [{"position": 1}, UnknownName])
        self.assertEqual(told(desk), before)

    def test_desks_know_nothing_of_each_other(self):
        one, other = made(), Desk()
        self.assertEqual(told(other), [([], []), [], [], []])
        other.do("net kite a")
        self.assertEqual([one.net_of("kite"), open_net(KITE, Closing())], [KITE, KITE])

    def test_returned_lists_are_new(self):
        desk = made("draw r kite")
        before = told(desk)
        desk.log().clear()
        for part in desk.names():
            part.clear()
        self.assertIs(type(desk.names()), tuple)
        self.assertEqual(told(desk), before)


if __name__ == "__main__":
    unittest.main()
