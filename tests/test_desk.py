"""Points 88 to 94."""

import random
import unittest

from drawnlayers.desk.desk import Desk
from drawnlayers.errors import (BadDeed, BadLine, BadPlace, DrawError, FirmRing, NoLine, NothingToRedo, NothingToUndo, Refused, TooLarge,
                                TooWide, Unclosed)
from drawnlayers.graph.graphs import walk_graphs
from drawnlayers.whole.picture import Picture, draw
from test_edits import applied_by_words

GREAT = 10 ** 39
WIDE = "\n".join(["edge a b span=2"] * 8)
BAD_TEXTS = (("oops", BadLine, 0), ("node a\n", BadLine, 1), ("\n".join(["node a"] * 81), TooLarge, 80), ("end", BadPlace, 0),
             ("node a\ngroup", Unclosed, 1), ("edges firm=yes\nedge a b a", FirmRing, 1), (WIDE, TooWide, ""),
             ("lot q\n" + WIDE + "\nend", TooWide, "q"))


def seen(desk):
    """All that can be seen of a desk."""
    return (desk.text, desk.lines, desk.ink.marks, desk.picture.graph, desk.picture.boxes(), desk.steps, desk.undone, desk.redrawn,
            desk.history())


def attribute(error):
    return next(iter(vars(error).values()))


class DeskCase(unittest.TestCase):
    def assert_shows(self, desk, lines):
        """The desk holds these lines and their picture."""
        picture = draw("\n".join(lines))
        self.assertEqual(desk.lines, tuple(lines))
        self.assertIs(type(desk.lines), tuple)
        self.assertEqual(desk.text, "\n".join(lines))
        self.assertIs(type(desk.picture), Picture)
        self.assertEqual(desk.picture.graph, picture.graph)
        self.assertEqual(desk.picture.ink.marks, picture.ink.marks)
        self.assertEqual(desk.ink.marks, picture.ink.marks)
        self.assertEqual(desk.picture.boxes(), picture.boxes())

    def assert_refused(self, desk, edits, index, kind, worth):
        """Both `do` and `would` refuse the edits, and nothing changes."""
        before = seen(desk)
        for call in (desk.do, desk.would):
            with self.assertRaises(Refused) as caught:
                call(*edits)
            self.assertEqual(caught.exception.index, index)
            self.assertIs(type(caught.exception.__cause__), kind)
            self.assertEqual(attribute(caught.exception.__cause__), worth)
            self.assertEqual(seen(desk), before)


class NewDeskTest(DeskCase):
    def test_new_desks(self):
        for desk, lines in ((Desk(), []), (Desk(""), []), (Desk("edge a b"), ["edge a b"]), (Desk(text="lot a\nend"), ["lot a", "end"])):
            self.assert_shows(desk, lines)
            self.assertEqual((desk.steps, desk.undone, desk.history()), (0, 0, []))
        self.assertEqual(Desk().lines, ())

    def test_all_graphs_of_a_new_desk_are_redrawn(self):
        self.assertEqual(Desk().redrawn, ("",))
        self.assertEqual(Desk("lot a\nlot b\nend\nend\nlot c\nend").redrawn, ("", "a", "b", "c"))

    def test_texts_that_cannot_be_drawn(self):
        for text, kind, worth in BAD_TEXTS:
            with self.assertRaises(kind) as caught:
                Desk(text)
            self.assertEqual(attribute(caught.exception), worth)

    def test_nothing_to_undo_or_redo(self):
        desk = Desk("edge a b")
        for call, kind in ((desk.undo, NothingToUndo), (desk.redo, NothingToRedo)):
            before = seen(desk)
            with self.assertRaises(kind) as caught:
                call()
            self.assertIsInstance(caught.exception, DrawError)
            self.assertEqual(seen(desk), before)


class DoTest(DeskCase):
    def test_one_edit(self):
        desk = Desk("edge a b")
        self.assertIsNone(desk.do(("put", 1, "edge b c")))
        self.assert_shows(desk, ["edge a b", "edge b c"])
        self.assertEqual((desk.steps, desk.undone, desk.history()), (1, 0, [("edge a b",)]))
        desk.do(("move", 1, 0))
        self.assert_shows(desk, ["edge b c", "edge a b"])
        desk.do(("take", 0))
        self.assert_shows(desk, ["edge a b"])
        self.assertEqual(desk.history(), [("edge a b",), ("edge a b", "edge b c"), ("edge b c", "edge a b")])

    def test_several_edits_are_one_step(self):
        desk = Desk()
        desk.do(("put", 0, "end"), ("put", 0, "oops"), ("put", 0, "lot a"), ("take", 1), ("put", 1, "node b"), ("move", 1, 1))
        self.assert_shows(desk, ["lot a", "node b", "end"])
        self.assertEqual((desk.steps, desk.history()), (1, [()]))
        desk.undo()
        self.assert_shows(desk, [])

    def test_lines_need_not_be_drawable_between_edits(self):
        desk = Desk("edge a b")
        desk.do(("put", 0, ""), ("put", 0, "x" * 200), ("take", 1), ("take", 0))
        self.assert_shows(desk, ["edge a b"])
        desk.do(*[("put", 1, "node c")] * 90, *[("take", 1)] * 89)
        self.assert_shows(desk, ["edge a b", "node c"])

    def test_without_edits(self):
        desk = Desk("edge a b")
        desk.do(("put", 1, "node c"))
        desk.do(("take", 1))
        desk.undo()
        before = seen(desk)
        self.assertIsNone(desk.do())
        self.assertEqual(seen(desk), before)
        self.assertEqual((desk.steps, desk.undone), (1, 1))

    def test_a_step_that_leaves_all_lines_as_they_were(self):
        desk = Desk("edge a b")
        desk.do(("put", 0, "node z"))
        desk.undo()
        desk.do(("move", 0, 0))
        self.assert_shows(desk, ["edge a b"])
        self.assertEqual((desk.steps, desk.undone, desk.redrawn, desk.history()), (1, 0, (), [("edge a b",)]))
        desk.undo()
        self.assertEqual((desk.steps, desk.undone, desk.redrawn), (0, 1, ()))

    def test_edits_that_cannot_be_done(self):
        desk = Desk("edge a b\nnode c")
        fine = ("put", 0, "node d")
        for edit, number in ((("put", 3, "x"), 3), (("put", -1, "x"), -1), (("put", GREAT, "x"), GREAT), (("take", 2), 2), (("take", -1), -1),
                             (("take", -GREAT), -GREAT), (("move", 2, 0), 2), (("move", 0, 2), 2), (("move", -1, 5), -1), (("move", 5, -1), 5),
                             (("move", 0, -1), -1)):
            self.assert_refused(desk, (edit,), 0, NoLine, number)
            self.assert_refused(desk, (edit, ("put", 0, "oops")), 0, NoLine, number)
            # Each number is out of range before the last edit, and some are not behind a put.
            self.assert_refused(desk, (fine, ("take", 0), edit), 2, NoLine, number)
        self.assert_refused(Desk(), (("take", 0),), 0, NoLine, 0)
        self.assert_refused(Desk(), (("put", 0, ""), ("take", 0), ("move", 0, 0)), 2, NoLine, 0)

    def test_lines_that_cannot_be_drawn_at_the_end(self):
        for text, kind, worth in BAD_TEXTS:
            edits = [("put", at, line) for at, line in enumerate(text.split("\n"))] + [("take", len(text.split("\n")))]
            self.assert_refused(Desk("edge a b"), edits, len(edits), kind, worth)

    def test_one_empty_line(self):
        self.assert_refused(Desk(), (("put", 0, ""),), 1, BadLine, 0)
        self.assert_refused(Desk("node a"), (("take", 0), ("put", 0, "")), 2, BadLine, 0)
        self.assert_refused(Desk("node a"), (("put", 1, ""),), 1, BadLine, 1)
        self.assert_refused(Desk("node a"), (("put", 0, ""),), 1, BadLine, 0)
        self.assert_refused(Desk(), (("put", 0, ""), ("put", 0, "")), 2, BadLine, 0)

    def test_a_line_that_is_moved_to_where_it_must_not_stand(self):
        desk = Desk("lot a\nnode b\nend")
        self.assert_refused(desk, (("move", 0, 2),), 1, BadPlace, 1)
        self.assert_refused(desk, (("take", 2),), 1, Unclosed, 0)
        desk.do(("move", 1, 2))
        self.assert_shows(desk, ["lot a", "end", "node b"])

    def test_a_refused_step_keeps_what_can_be_redone(self):
        desk = Desk("node a")
        desk.do(("put", 1, "node b"))
        desk.do(("put", 2, "node c"))
        desk.undo()
        self.assert_refused(desk, (("take", 7),), 0, NoLine, 7)
        self.assert_refused(desk, (("put", 0, "oops"),), 1, BadLine, 0)
        desk.redo()
        self.assert_shows(desk, ["node a", "node b", "node c"])


class UndoTest(DeskCase):
    def test_there_and_back(self):
        desk = Desk("node a")
        texts = [desk.lines]
        for at, name in enumerate("bcd"):
            desk.do(("put", at, "node " + name), ("put", at, "edge a " + name))
            texts.append(desk.lines)
        for done in (2, 1, 0):
            self.assertIsNone(desk.undo())
            self.assert_shows(desk, texts[done])
            self.assertEqual((desk.steps, desk.undone, desk.history()), (done, 3 - done, texts[:done]))
        for done in (1, 2, 3):
            self.assertIsNone(desk.redo())
            self.assert_shows(desk, texts[done])
            self.assertEqual((desk.steps, desk.undone, desk.history()), (done, 3 - done, texts[:done]))

    def test_a_new_step_forgets_what_was_undone(self):
        for step in (lambda desk: desk.do(("put", 0, "node z")), lambda desk: desk.do(("move", 0, 0)), lambda desk: desk.change("node z"),
                     lambda desk: desk.change(desk.text), lambda desk: setattr(desk, "text", "node z")):
            desk = Desk("node a")
            desk.do(("put", 1, "node b"))
            desk.do(("put", 2, "node c"))
            desk.undo()
            self.assertEqual((desk.steps, desk.undone), (1, 1))
            step(desk)
            self.assertEqual((desk.steps, desk.undone), (2, 0))
            with self.assertRaises(NothingToRedo):
                desk.redo()
            desk.undo()
            self.assert_shows(desk, ["node a", "node b"])
            desk.undo()
            self.assert_shows(desk, ["node a"])
            self.assertEqual((desk.steps, desk.undone), (0, 2))

    def test_history_is_a_new_list(self):
        desk = Desk("node a")
        desk.do(("put", 1, "node b"))
        history = desk.history()
        self.assertIs(type(history), list)
        history.append(("oops",))
        history[0] = ()
        self.assertEqual(desk.history(), [("node a",)])
        desk.undo()
        self.assert_shows(desk, ["node a"])


class ChangeTest(DeskCase):
    def test_changing_all_lines(self):
        desk = Desk("node a")
        self.assertIsNone(desk.change("edge b c\nnode d"))
        self.assert_shows(desk, ["edge b c", "node d"])
        desk.change("")
        self.assert_shows(desk, [])
        self.assertEqual((desk.steps, desk.history()), (2, [("node a",), ("edge b c", "node d")]))
        desk.undo()
        desk.undo()
        self.assert_shows(desk, ["node a"])
        desk.redo()
        self.assert_shows(desk, ["edge b c", "node d"])

    def test_the_same_text_is_a_step_too(self):
        desk = Desk("node a")
        desk.change("node a")
        desk.text = "node a"
        self.assertEqual((desk.steps, desk.history(), desk.redrawn), (2, [("node a",)] * 2, ()))

    def test_assigning_the_text(self):
        desk = Desk("node a")
        desk.text = "edge b c"
        self.assert_shows(desk, ["edge b c"])
        desk.text = ""
        self.assertEqual((desk.lines, desk.steps), ((), 2))
        desk.undo()
        desk.text += "\nnode d"
        self.assert_shows(desk, ["edge b c", "node d"])

    def test_texts_that_cannot_be_drawn(self):
        desk = Desk("node a")
        desk.do(("put", 0, "node b"))
        desk.do(("put", 0, "node c"))
        desk.undo()
        before = seen(desk)
        for text, kind, worth in BAD_TEXTS:
            for call in (desk.change, lambda text: setattr(desk, "text", text)):
                with self.assertRaises(kind) as caught:
                    call(text)
                self.assertEqual(attribute(caught.exception), worth)
                self.assertEqual(seen(desk), before)


class RedrawnTest(DeskCase):
    def test_what_a_step_changes(self):
        desk = Desk("lot a\nnode b\nend\nlot c\nlot d\nnode e\nend\nend")
        desk.do(("put", 0, "node f"))
        self.assertEqual(desk.redrawn, ("",))
        # A graph with a lot has the inside of the lot as a part of it.
        desk.do(("put", 6, "node g"))
        self.assertEqual(desk.redrawn, ("", "c", "d"))
        desk.do(("put", 2, "node h"))
        self.assertEqual(desk.redrawn, ("", "a"))
        desk.do(("put", 6, "node i"))
        self.assertEqual(desk.redrawn, ("", "c"))

    def test_steps_that_change_no_graph(self):
        desk = Desk("node a\nedge a b")
        desk.do(("take", 0))
        self.assertEqual(desk.redrawn, ())
        desk.undo()
        self.assertEqual(desk.redrawn, ())
        desk.do(("put", 2, "group"), ("put", 3, "end"))
        self.assertEqual(desk.redrawn, ())

    def test_a_lot_that_gets_another_name(self):
        desk = Desk("lot a\nnode b\nend")
        desk.do(("take", 0), ("put", 0, "lot c"))
        self.assertEqual(desk.redrawn, ("",))
        desk.change("lot d\nlot a\nnode b\nend\nend")
        self.assertEqual(desk.redrawn, ("", "d"))
        # The inside of a becomes the root; it is equal to one of the graphs before.
        desk.change("node b")
        self.assertEqual(desk.redrawn, ())
        desk.change("lot a\nnode b\nend\nlot c\nend")
        self.assertEqual(desk.redrawn, ("", "c"))

    def test_a_graph_that_comes_back(self):
        desk = Desk("lot a\nnode b\nend")
        desk.do(("put", 2, "node c"))
        self.assertEqual(desk.redrawn, ("", "a"))
        desk.undo()
        self.assertEqual(desk.redrawn, ("", "a"))
        desk.redo()
        self.assertEqual(desk.redrawn, ("", "a"))

    def test_settings_that_are_handed_down(self):
        desk = Desk("lot a\nnode b\nend")
        desk.do(("put", 0, "graph across=5"))
        self.assertEqual(desk.redrawn, ("", "a"))
        desk.do(("move", 0, 3))
        self.assertEqual(desk.redrawn, ("", "a"))

    def test_what_leaves_them_as_they_are(self):
        desk = Desk("lot a\nnode b\nend")
        desk.do(("put", 2, "node c"))
        desk.do(("put", 0, "node d"))
        self.assertEqual(desk.redrawn, ("",))
        desk.do()
        for call in (lambda: desk.do(("take", 9)), lambda: desk.do(("take", 1)), lambda: desk.change("oops"), lambda: desk.redo()):
            with self.assertRaises(DrawError):
                call()
            self.assertEqual(desk.redrawn, ("",))
        desk.would(("take", 3))
        desk.tried("take 3\nundo\nundo")
        self.assertEqual(desk.redrawn, ("",))


class BlockTest(DeskCase):
    def desk(self):
        desk = Desk("lot a\nnode b\nend")
        desk.do(("put", 0, "node c"))
        desk.do(("put", 2, "node d"))
        desk.do(("put", 0, "node e"))
        desk.undo()
        return desk

    def work(self, held):
        held.do(("take", 0))
        held.undo()
        held.undo()
        held.change("edge p q")
        held.text = "edge p q r"
        held.do(("put", 1, "node s"))
        held.undo()

    def test_a_block_that_ends_plainly(self):
        desk = self.desk()
        before = seen(desk)
        picture = desk.picture
        with desk as held:
            self.assertIs(held, desk)
            self.assertEqual(seen(held), before)
            self.work(held)
            self.assertEqual((held.lines, held.steps, held.undone), (("edge p q r",), 3, 1))
        self.assertEqual(seen(desk), before)
        self.assertIs(desk.picture, picture)
        desk.redo()
        self.assertEqual(desk.lines[0], "node e")

    def test_a_block_without_a_name_or_a_change(self):
        desk = self.desk()
        before = seen(desk)
        with desk:
            pass
        self.assertEqual(seen(desk), before)

    def test_a_block_that_is_left_by_a_return(self):
        desk = self.desk()
        before = seen(desk)

        def lines_then():
            with desk as held:
                self.work(held)
                return held.lines

        self.assertEqual(lines_then(), ("edge p q r",))
        self.assertEqual(seen(desk), before)

    def test_a_block_that_is_left_by_an_error(self):
        desk = self.desk()
        before = seen(desk)
        for kind in (ZeroDivisionError, KeyError, Refused, KeyboardInterrupt):
            with self.assertRaises(kind):
                with desk as held:
                    self.work(held)
                    if kind is Refused:
                        held.do(("take", 50))
                    raise kind()
            self.assertEqual(seen(desk), before)

    def test_blocks_one_after_the_other(self):
        desk = self.desk()
        for _ in range(3):
            desk.do(("put", 0, "graph down=9"))
            before = seen(desk)
            with desk as held:
                self.work(held)
            self.assertEqual(seen(desk), before)
        self.assertEqual(desk.steps, 5)

    def test_tried_and_would_within_a_block(self):
        desk = self.desk()
        before = seen(desk)
        with desk as held:
            held.change("edge p q")
            within = seen(held)
            self.assertEqual(held.tried("put 1 node r\nundo\nundo\nundo")[0], ["done"] * 4)
            self.assertEqual(held.would(("take", 0)), ())
            self.assertEqual(seen(held), within)
        self.assertEqual(seen(desk), before)


class TriedTest(DeskCase):
    def test_tried(self):
        desk = Desk("edge a b")
        desk.do(("put", 1, "node c"))
        before = seen(desk)
        outcomes, lines, marks = desk.tried("put 0 node d\nput 9 x\nundo\nundo\nundo\nput 1 edge b a ; put 2 node z")
        self.assertEqual(outcomes, ["done", "refused", "done", "done", "nothing", "done"])
        self.assertEqual(lines, ("edge a b", "edge b a", "node z"))
        self.assertEqual(marks, draw("edge a b\nedge b a\nnode z").ink.marks)
        self.assertEqual((type(outcomes), type(lines), type(marks)), (list, tuple, tuple))
        self.assertEqual(seen(desk), before)

    def test_an_empty_script(self):
        desk = Desk("edge a b")
        found = desk.tried("")
        self.assertIs(type(found), tuple)
        self.assertEqual(found, ([], ("edge a b",), desk.ink.marks))

    def test_what_can_be_redone_can_be_tried(self):
        desk = Desk("edge a b")
        desk.do(("put", 1, "node c"))
        desk.undo()
        before = seen(desk)
        self.assertEqual(desk.tried("redo\nredo")[:2], (["done", "nothing"], ("edge a b", "node c")))
        self.assertEqual(seen(desk), before)

    def test_bad_scripts(self):
        desk = Desk("edge a b")
        before = seen(desk)
        for script, line in (("oops", 0), ("undo\nput 0 node z\nput 0", 2), ("\n", 0), ("undo\n", 1)):
            with self.assertRaises(BadDeed) as caught:
                desk.tried(script)
            self.assertEqual(caught.exception.line, line)
            self.assertEqual(seen(desk), before)

    def test_would(self):
        desk = Desk("edge a b")
        desk.do(("put", 1, "node c"))
        desk.undo()
        before = seen(desk)
        marks = desk.would(("put", 0, "oops"), ("put", 2, "edge b c"), ("take", 0))
        self.assertIs(type(marks), tuple)
        self.assertEqual(marks, draw("edge a b\nedge b c").ink.marks)
        self.assertEqual(desk.would(), desk.ink.marks)
        self.assertEqual(desk.would(("take", 0)), ())
        self.assertEqual(seen(desk), before)


class ManyDeedsTest(DeskCase):
    LINES = ("node a", "edge a b", "edge b c label=x", "lot q", "end", "group", "node d", "oops", "", "graph down=9", "edge d a")

    def test_against_a_plain_list_of_texts(self):
        source = random.Random(90)
        found = {"done": 0, "refused": 0, "undone": 0, "redone": 0, "nothing": 0}
        for _ in range(15):
            desk, past, now, ahead = Desk("node a"), [], ("node a",), []
            for _ in range(60):
                chance = source.random()
                if chance < 0.2:
                    found[self.try_back(desk.undo, NothingToUndo, past, "undone")] += 1
                    if past:
                        ahead.append(now)
                        now = past.pop()
                elif chance < 0.4:
                    found[self.try_back(desk.redo, NothingToRedo, ahead, "redone")] += 1
                    if ahead:
                        past.append(now)
                        now = ahead.pop()
                else:
                    edits = self.random_edits(source, now)
                    after = self.after(now, edits)
                    try:
                        desk.do(*edits)
                        self.assertIsNotNone(after)
                        past.append(now)
                        now, ahead = after, []
                        found["done"] += 1
                    except Refused:
                        self.assertIsNone(after)
                        found["refused"] += 1
                self.assert_shows(desk, now)
                self.assertEqual((desk.history(), desk.steps, desk.undone), (past, len(past), len(ahead)))
                self.assertLessEqual(set(desk.redrawn), {name for name, _ in walk_graphs(desk.picture.graph)})
        self.assertGreater(min(found.values()), 20, found)

    def try_back(self, call, kind, rows, word):
        try:
            call()
        except kind:
            self.assertEqual(rows, [])
            return "nothing"
        self.assertNotEqual(rows, [])
        return word

    def random_edits(self, source, lines):
        edits = []
        for _ in range(source.choice((1, 1, 1, 2, 4))):
            at, to = (source.randint(0, len(lines)) for _ in range(2))
            edits.append(source.choice((("put", at, source.choice(self.LINES)), ("put", at, source.choice(self.LINES)), ("take", at),
                                        ("move", at, to))))
        return edits

    def after(self, lines, edits):
        """The lines after the edits, or None if they are refused."""
        for edit in edits:
            most = len(lines) - (edit[0] != "put")
            if any(isinstance(number, int) and number > most for number in edit[1:]):
                return None
            lines = applied_by_words(lines, edit)
        try:
            draw("\n".join(lines))
        except DrawError:
            return None
        return None if lines == ("",) else lines


if __name__ == "__main__":
    unittest.main()
