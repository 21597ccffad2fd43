"""Point 95: running scripts."""

import unittest

from drawnlayers.desk.desk import Desk
from drawnlayers.desk.script import run_script
from drawnlayers.errors import BadDeed


class ScriptTest(unittest.TestCase):
    def assert_desk(self, desk, lines, steps, undone):
        self.assertEqual((desk.lines, desk.steps, desk.undone), (tuple(lines), steps, undone))

    def test_the_example(self):
        desk = Desk("edge a b")
        self.assertEqual(run_script(desk, "put 0 group ; put 2 end\nundo\nundo"), ["done", "done", "nothing"])
        self.assert_desk(desk, ["edge a b"], 0, 1)

    def test_no_deeds(self):
        desk = Desk("edge a b")
        outcomes = run_script(desk, "")
        self.assertEqual(outcomes, [])
        self.assertIs(type(outcomes), list)
        self.assert_desk(desk, ["edge a b"], 0, 0)

    def test_outcomes_of_all_kinds(self):
        desk = Desk()
        script = ["undo", "redo", "put 0 node a", "put 2 node b", "put 1 node b ; put 1 oops", "take 0 ; take 0", "put 1 edge a b", "undo",
                  "put 0 group", "redo", "undo", "undo", "undo", "redo", "take 0 ; put 0 node z", "redo"]
        outcomes = ["nothing", "nothing", "done", "refused", "refused", "refused", "done", "done", "refused", "done", "done", "done",
                    "nothing", "done", "done", "nothing"]
        self.assertEqual(run_script(desk, "\n".join(script)), outcomes)
        self.assert_desk(desk, ["node z"], 2, 0)

    def test_one_empty_line_is_refused(self):
        desk = Desk()
        self.assertEqual(run_script(desk, "put 0 x ; take 0"), ["done"])
        self.assert_desk(desk, [], 1, 0)

    def test_a_bad_line_anywhere(self):
        good = ["put 0 node a", "undo", "redo", "take 0", "put 0 node b"]
        for at in range(len(good) + 1):
            for bad in ("", " ", "undo ", "put 0", "put 1000 node x", "take " + "9" * 2000, "do", "put 0 " + "x" * 201, "put 0 a;b"):
                for tail in ([], ["worse"], [""]):
                    desk = Desk("edge a b")
                    with self.assertRaises(BadDeed) as caught:
                        run_script(desk, "\n".join(good[:at] + [bad] + good[at:] + tail))
                    self.assertEqual(caught.exception.line, at)
                    # Nothing has been done before.
                    self.assert_desk(desk, ["edge a b"], 0, 0)

    def test_line_feeds(self):
        for script, line in (("\n", 0), ("undo\n", 1), ("\nundo", 0), ("undo\n\nundo", 1)):
            with self.assertRaises(BadDeed) as caught:
                run_script(Desk(), script)
            self.assertEqual(caught.exception.line, line)

    def test_as_many_deeds_as_a_script_may_have(self):
        desk = Desk()
        script = "\n".join([f"put {at} node {'abcdefgh'[at % 7]}" for at in range(40)])
        self.assertEqual(run_script(desk, script), ["done"] * 40)
        self.assertEqual((len(desk.lines), desk.steps), (40, 40))

    def test_it_is_like_the_methods_one_by_one(self):
        one, other = Desk("node a"), Desk("node a")
        run_script(one, "put 1 edge a b ; move 0 1\ntake 0\nundo\nundo\nredo")
        other.do(("put", 1, "edge a b"), ("move", 0, 1))
        other.do(("take", 0))
        other.undo()
        other.undo()
        other.redo()
        self.assertEqual((one.lines, one.steps, one.undone, one.redrawn, one.history(), one.ink.marks),
                         (other.lines, other.steps, other.undone, other.redrawn, other.history(), other.ink.marks))


if __name__ == "__main__":
    unittest.main()
