import unittest

from drawn import Chance, drawn_net
from oracles import drawn_rows
from outsigns.drawings import drawing
from outsigns.errors import InvalidNet, InvalidRows, InvalidText, OtherNet, SignError, TooMany
from outsigns.nets import Net
from outsigns.rows import Rows
from outsigns.texts import net_text, read_net, read_rows, rows_text
from refusals import Refusals
from shapes import glued
from values import NOT_NETS, many_names, widest_net

KITE = Net.ring("a", "b", "c", "d") + ("a", "c")
KITE_TEXT = "node a\nnode b\nnode c\nnode d\nlink a b\nlink a c\nlink a d\nlink b c\nlink c d\n"
ROWS_TEXT = "row a: b c d\nrow b: c a\nrow c: d a b\nrow d: a c\n"
NOT_TEXTS = [None, True, False, 0, 1, b"node a\n", ["node a\n"], ("node a\n",), {}, {"a"}, Net(["a"]), str]


def lines_of(text):
    """The lines of a text by [91]."""
    lines = text.split("\n")
    return lines if lines[-1] else lines[:-1]


def net_by(lines):
    """The net of lines that are a right text, else None."""
    words = [line.split() for line in lines]
    try:
        net = Net([line[1] for line in words if line[:1] == ["node"]],
                  [tuple(line[1:]) for line in words if line[:1] == ["link"]])
    except (SignError, TooMany, IndexError):
        return None
    return net if net_text(net) == "".join(line + "\n" for line in lines) else None


def rows_by(net, lines):
    """The rows of a net that lines tell, and plain rows for the nodes behind them; None if they are not right."""
    plain = [f"row {node}: {' '.join(net.neighbours(node))}".rstrip() for node in net.nodes()]
    every = [*lines, *plain[len(lines):]]
    try:
        rows = Rows(net, {line.split(":")[0][4:]: line.split(":")[1].split() for line in every})
    except (SignError, IndexError):
        return None
    return rows if rows_text(rows) == "".join(line + "\n" for line in every) else None


def wrong_line(text, begins, whole):
    """The wrong line of a text, None if it is right: begins tells of lines whether a right text begins so."""
    lines = lines_of(text)
    for at in range(1, len(lines) + 1):
        if at == len(lines) and not text.endswith("\n") or not begins(lines[:at]):
            return at
    return None if whole(lines) else len(lines) + 1


def changed_texts(chance, text):
    """Texts with one or two signs or lines otherwise."""
    lines = text.split("\n")[:-1]
    found = ["", "\n", text[:-1], text + "\n", text + " ", text + "a", "\n" + text, " " + text, text + text]
    for _ in range(40):
        part, at = list(text), chance.below(len(text) + 1)
        for _ in range(1 + chance.below(2)):
            kind = chance.below(4)
            sign = chance.pick(list("  \n:abcdlnkoerw-Az1"))
            if kind == 0:
                del part[at:at + 1]
            elif kind == 1:
                part.insert(at, sign)
            elif kind == 2:
                part[at:at + 1] = [sign]
            else:
                part[at:at + 2] = part[at:at + 2][::-1]
            at = chance.below(len(text) + 1)
        found.append("".join(part))
        rest = list(lines)
        for _ in range(1 + chance.below(2)):
            kind, at, by = chance.below(4), chance.below(len(rest) + 1), chance.below(len(lines))
            if kind == 0:
                del rest[at:at + 1]
            elif kind == 1:
                rest.insert(at, chance.pick([lines[by], "node e", "link a e", "row a:", "row a: ", "", " "]))
            elif kind == 2:
                rest[at:at + 1] = [lines[by]]
            else:
                rest[at:at + 2] = rest[at:at + 2][::-1]
        found.append("".join(line + "\n" for line in rest))
    return found


class NetTextTest(Refusals):
    def told(self, text):
        """The wrong line by the package, None if it reads a net."""
        try:
            self.assertIs(type(read_net(text)), Net)
        except InvalidText as error:
            return error.line
        return None

    def test_and_back(self):
        self.assertEqual(net_text(KITE), KITE_TEXT)
        for seed in range(60):
            net = drawn_net(Chance(seed), 30) if seed % 2 else glued(Chance(seed), many_names(40), 9)
            text = net_text(net)
            self.assertEqual(text, "".join([f"node {node}\n" for node in net.nodes()]
                                           + [f"link {one} {other}\n" for one, other in net.links()]))
            self.assertEqual([read_net(text), net_text(read_net(text))], [net, text])
            self.assertEqual([net_text(net=net), read_net(text=text)], [text, net])
            self.assertEqual(read_net(text).neighbours(net.nodes()[0]), net.neighbours(net.nodes()[0]))

    def test_wrong_lines(self):
        seen = {}
        for seed in range(40):
            chance = Chance(seed)
            net = KITE if seed == 0 else drawn_net(chance, 6)
            for text in changed_texts(chance, net_text(net)):
                expected = wrong_line(text, net_by, net_by)
                self.assertEqual(self.told(text), expected, text)
                seen[expected] = seen.get(expected, 0) + 1
                if expected is None:
                    self.assertEqual(read_net(text), net_by(lines_of(text)))
        self.assertGreater(min(seen[line] for line in (None, 1, 2, 3, 4, 5, 6)), 10)

    def test_examples(self):
        for text, line in [("", 1), ("\n", 1), ("node a", 1), ("node a\nnode b", 2), ("node a\n\n", 2), ("node a\n ", 2),
                           ("link a b\n", 1), ("node b\nnode a\n", 2), ("node a\nnode a\n", 2), ("node a \n", 1),
                           ("node a\nlink a b\n", 2), ("node a\nnode b\nlink b a\n", 3), ("node  a\n", 1), ("node\n", 1),
                           ("node a\nnode b\nlink a b\nnode c\n", 4), ("node a\nnode b\nlink a b\nlink a b\n", 4),
                           ("node a\nnode b\nlink a a\n", 3), ("node a\nnode b\nlink a b \n", 3), ("node A\n", 1),
                           ("node abcdefghi\n", 1), ("Node a\n", 1), ("node a\nnode b\nlink a b a\n", 3),
                           ("node a\nlink a\n", 2), ("node a b\n", 1), ("\nnode a\n", 1), (KITE_TEXT[:-1], 9)]:
            self.refused(InvalidText, {"line": line}, lambda: read_net(text))

    def test_limits(self):
        names = many_names(61)
        lines = [f"node {name}\n" for name in names]
        self.assertEqual(read_net("".join(lines[:60])), Net(names[:60]))
        self.refused(InvalidText, {"line": 61}, lambda: read_net("".join(lines)))
        self.refused(InvalidText, {"line": 61}, lambda: read_net("".join(lines) + "x"))
        pairs = [(one, other) for at, one in enumerate(names[:17]) for other in names[at + 1:17]]
        links = [f"link {one} {other}\n" for one, other in pairs]
        self.assertEqual(read_net("".join([*lines[:60], *links[:120]])), Net(names[:60], pairs[:120]))
        self.refused(InvalidText, {"line": 181}, lambda: read_net("".join([*lines[:60], *links[:121]])))
        self.refused(InvalidText, {"line": 138}, lambda: read_net("".join([*lines[:17], *links[:125]])))

    def test_refusals(self):
        for value in NOT_NETS:
            self.refused(InvalidNet, {"value": value}, lambda: net_text(value))
        for value in NOT_TEXTS:
            self.refused(InvalidText, {"line": None}, lambda: read_net(value))


class RowsTextTest(Refusals):
    def told(self, net, text):
        try:
            self.assertIs(type(read_rows(net, text)), Rows)
        except InvalidText as error:
            return error.line
        return None

    def test_and_back(self):
        self.assertEqual(rows_text(drawing(KITE)), ROWS_TEXT)
        for seed in range(60):
            chance = Chance(seed)
            net = drawn_net(chance, 30) if seed % 2 else glued(chance, many_names(40), 9)
            rows = drawn_rows(chance, net)
            text = rows_text(rows)
            self.assertEqual(lines_of(text), [f"row {node}:" + "".join(f" {name}" for name in rows[node])
                                              for node in net.nodes()])
            self.assertEqual([read_rows(net, text), rows_text(read_rows(net, text))], [rows, text])
            self.assertEqual([rows_text(rows=rows), read_rows(text=text, net=net)], [text, rows])

    def test_wrong_lines(self):
        seen = {}
        for seed in range(40):
            chance = Chance(seed)
            net = KITE if seed == 0 else drawn_net(chance, 8)
            rows = drawn_rows(chance, net)
            for text in changed_texts(chance, rows_text(rows)):
                expected = wrong_line(text, lambda lines: rows_by(net, lines),
                                      lambda lines: len(lines) == len(net) and rows_by(net, lines))
                self.assertEqual(self.told(net, text), expected, text)
                seen[expected] = seen.get(expected, 0) + 1
                if expected is None:
                    self.assertEqual(read_rows(net, text), rows_by(net, lines_of(text)))
        self.assertGreater(min(seen[line] for line in (None, 1, 2, 3, 4)), 10)

    def test_examples(self):
        self.assertEqual(rows_text(Rows(Net(["b", "a"]))), "row a:\nrow b:\n")
        for text, line in [("", 1), ("row a:", 1), ("row a: \n", 1), ("row a:\n", 2), ("row a:\nrow b:", 2),
                           ("row a:\nrow b:\n\n", 3), ("row a:\nrow b:\nrow c:\n", 3), ("row b:\nrow a:\n", 1),
                           ("row a:\nrow b: \n", 2), ("row a: b\nrow b: a\n", 1), ("row  a:\n", 1), ("row a :\n", 1),
                           ("row a\n", 1), ("row a:\nrow b:\n ", 3), ("rowa:\n", 1), ("row a:\nrow a:\n", 2)]:
            self.refused(InvalidText, {"line": line}, lambda: read_rows(Net(["a", "b"]), text))
        for text, line in [(ROWS_TEXT[:-1], 4), (ROWS_TEXT + "row e:\n", 5), (ROWS_TEXT.replace("b c d", "b c"), 1),
                           (ROWS_TEXT.replace("c a", "c c"), 2), (ROWS_TEXT.replace("c a", "c  a"), 2),
                           (ROWS_TEXT.replace("d a b", "d a b "), 3), (ROWS_TEXT.replace("a c\n", "a c b\n"), 4),
                           (ROWS_TEXT.replace("row d", "row e"), 4), (ROWS_TEXT[:ROWS_TEXT.index("row d")], 4)]:
            self.refused(InvalidText, {"line": line}, lambda: read_rows(KITE, text))

    def test_large_nets(self):
        rows = Rows(widest_net())
        text = rows_text(rows)
        self.assertEqual(read_rows(rows.net, text), rows)
        self.refused(InvalidText, {"line": 60}, lambda: read_rows(rows.net, text[:-1]))
        self.refused(InvalidText, {"line": 61}, lambda: read_rows(rows.net, text + "row"))
        self.refused(InvalidText, {"line": 1}, lambda: read_rows(KITE, text))

    def test_refusals(self):
        for value in [None, 0, (), {}, KITE, Rows(KITE).signs(), Rows, ROWS_TEXT, OtherNet]:
            self.refused(InvalidRows, {"value": value}, lambda: rows_text(value))
        for value in NOT_NETS:
            self.refused(InvalidNet, {"value": value}, lambda: read_rows(value, None))
        for value in NOT_TEXTS:
            self.refused(InvalidText, {"line": None}, lambda: read_rows(KITE, value))


if __name__ == "__main__":
    unittest.main()
