"""What a loop of the package goes over is not changed inside it, whatever name or choice it is changed by."""

import ast
import pathlib
import unittest

ROOT = pathlib.Path(__file__).resolve().parent.parent
FILES = sorted((ROOT / "drawnlayers").rglob("*.py"))

CHANGING = set("append clear extend insert pop remove reverse setdefault sort update add discard".split())
# Calls that go over what they are given, and do not copy it first.
STRAIGHT = set("enumerate zip reversed iter map".split())
VIEWS = set("items keys values".split())
LOOPS = (ast.For, ast.ListComp, ast.DictComp, ast.SetComp, ast.GeneratorExp)


class Thing:
    """What a name may stand for. Two things that may be the same one come to have the same root."""

    def __init__(self):
        self.above = None
        self.inner = None

    def root(self):
        return self if self.above is None else self.above.root()

    def item(self):
        root = self.root()
        if root.inner is None:
            root.inner = Thing()
        return root.inner.root()

    def join(self, other):
        one, other = self.root(), other.root()
        if one is not other:
            other.above = one
            if one.inner is None:
                one.inner = other.inner
            elif other.inner is not None:
                one.inner.join(other.inner)


class Things:
    """The things for which the names, attributes and items of one function may stand."""

    def __init__(self, function):
        self.named = {}
        for node in ast.walk(function):
            if isinstance(node, ast.Assign):
                for target in node.targets:
                    self.assign(target, node.value)
            elif isinstance(node, ast.NamedExpr):
                self.assign(node.target, node.value)
            elif isinstance(node, (ast.For, ast.comprehension)):
                self.hand_out(node.target, [thing.item() for thing in self.gone_over(node.iter)])

    def of(self, node):
        """The things for which an expression may stand."""
        if isinstance(node, (ast.Name, ast.Attribute)):
            name = node.id if isinstance(node, ast.Name) else "." + node.attr
            return [self.named.setdefault(name, Thing()).root()]
        if isinstance(node, ast.Subscript) and not isinstance(node.slice, ast.Slice):
            return [thing.item() for thing in self.of(node.value)]
        if isinstance(node, ast.IfExp):
            return self.of(node.body) + self.of(node.orelse)
        if isinstance(node, ast.BoolOp):
            return [thing for value in node.values for thing in self.of(value)]
        if isinstance(node, ast.NamedExpr):
            return self.of(node.value)
        return []

    def gone_over(self, node):
        """The things that a loop over an expression goes over."""
        if isinstance(node, ast.Call) and isinstance(node.func, ast.Name) and node.func.id in STRAIGHT:
            return [thing for part in node.args for thing in self.gone_over(part)]
        if isinstance(node, ast.Call) and isinstance(node.func, ast.Attribute) and node.func.attr in VIEWS:
            return self.of(node.func.value)
        return self.of(node)

    def assign(self, target, value):
        if isinstance(target, ast.Tuple) and isinstance(value, ast.Tuple) and len(target.elts) == len(value.elts):
            for part, part_value in zip(target.elts, value.elts):
                self.assign(part, part_value)
        elif isinstance(target, ast.Tuple):
            self.hand_out(target, self.of(value))
        else:
            for thing in self.of(target):
                for other in self.of(value):
                    thing.join(other)

    def hand_out(self, target, things):
        """Let a target stand for one of the things; where it unpacks them, its parts stand for their items."""
        if isinstance(target, ast.Tuple):
            for part in target.elts:
                self.hand_out(part, things + [thing.item() for thing in things])
        elif not isinstance(target, ast.Starred):
            for thing in self.of(target):
                for other in things:
                    thing.join(other)


def changed_parts(nodes):
    """The expressions for what some rows change, and for what they give to a change."""
    for node in [part for row in nodes for part in ast.walk(row)]:
        if isinstance(node, ast.Call) and isinstance(node.func, ast.Attribute) and node.func.attr in CHANGING:
            yield node.func.value
        elif isinstance(node, ast.Subscript) and not isinstance(node.ctx, ast.Load):
            yield node.value
        elif isinstance(node, ast.AugAssign):
            yield node.target


def bad_loops(source):
    """The rows of loops that change what they go over, and of changes by what they change."""
    found = set()
    for function in ast.walk(ast.parse(source)):
        if not isinstance(function, ast.FunctionDef):
            continue
        things = Things(function)
        for node in ast.walk(function):
            if isinstance(node, LOOPS):
                heads = [node.iter] if isinstance(node, ast.For) else [part.iter for part in node.generators]
                rows = node.body + node.orelse if isinstance(node, ast.For) else [node]
                walked = {thing.root() for head in heads for thing in things.gone_over(head)}
                changed = {thing.root() for part in changed_parts(rows) for thing in things.of(part)}
            elif isinstance(node, ast.Call) and isinstance(node.func, ast.Attribute) and node.func.attr in ("extend", "update"):
                walked = {thing.root() for part in node.args for thing in things.gone_over(part)}
                changed = {thing.root() for thing in things.of(node.func.value)}
            else:
                continue
            if walked & changed:
                found.add(node.lineno)
    return found


def row_found(*rows):
    """Tell whether a bad loop is found in a function with these rows."""
    source = "def told(xs, ys, box):\n" + "\n".join("    " + row for row in rows)
    return bad_loops(source) != set()


class LoopsTest(unittest.TestCase):
    def test_no_file_changes_what_it_goes_over(self):
        for path in FILES:
            self.assertEqual(bad_loops(path.read_text()), set(), path)

    def test_changes_by_the_name_itself(self):
        for change in ("xs.append(x)", "xs[0] = x", "del xs[0]", "xs += [x]", "xs[0] += 1", "xs.pop()", "xs[1:] = [x]"):
            for head in ("xs", "enumerate(xs)", "zip(ys, xs)", "reversed(xs)", "xs.items()", "xs if ys else box", "ys or xs"):
                self.assertTrue(row_found(f"for x in {head}:", f"    {change}"), (head, change))
            for head in ("ys", "list(xs)", "xs[:]", "range(len(xs))", "sorted(xs)", "list(xs.items())"):
                self.assertFalse(row_found(f"for x in {head}:", f"    {change}"), (head, change))

    def test_changes_by_another_name(self):
        self.assertTrue(row_found("for x in xs:", "    ys.append(x)", "xs = ys"))
        self.assertTrue(row_found("zs = ys", "xs = ys", "for x in xs:", "    zs.append(x)"))
        self.assertTrue(row_found("xs, zs = ys, []", "for x in xs:", "    ys.append(x)"))
        self.assertTrue(row_found("zs = xs if box else ys", "for x in zs:", "    ys.append(x)"))
        self.assertFalse(row_found("xs, zs = ys, []", "for x in xs:", "    zs.append(x)"))
        self.assertFalse(row_found("zs = list(xs)", "for x in xs:", "    zs.append(x)"))

    def test_changes_of_attributes_and_items(self):
        self.assertTrue(row_found("for x in box.rows:", "    box.rows.append(x)"))
        self.assertTrue(row_found("zs = box.rows", "for x in zs:", "    xs.rows.append(x)"))
        self.assertTrue(row_found("for x in xs[0]:", "    xs[1].append(x)"))
        self.assertTrue(row_found("zs = xs[0]", "for x in zs:", "    xs[1].append(x)"))
        self.assertTrue(row_found("for row in xs:", "    for x in row:", "        xs[1].append(x)"))
        self.assertFalse(row_found("for row in xs:", "    row.append(1)"))
        self.assertFalse(row_found("for x in box.rows:", "    box.others.append(x)"))

    def test_comprehensions_and_what_a_list_is_extended_by(self):
        self.assertTrue(row_found("return [xs.pop() for x in xs]"))
        self.assertTrue(row_found("zs = xs", "return [x for x in zs if xs.append(x)]"))
        self.assertFalse(row_found("return [ys.pop() for x in xs]"))
        self.assertTrue(row_found("zs = xs", "xs.extend(zs)"))
        self.assertFalse(row_found("zs = xs", "xs.extend(list(zs))"))


if __name__ == "__main__":
    unittest.main()
