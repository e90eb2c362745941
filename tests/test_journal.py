from helper import LookerCase
from onelooker.journal import journal_lines
from onelooker.literals import below, negated, same, size_at_most
from onelooker.policies import Policy
from onelooker.sessions import Session

AB, SIZE_1, BELOW = same("a", "b"), size_at_most(1), below("o", "a", "b")


class JournalTest(LookerCase):

    def test_columns(self):
        session = Session(("a", "b"), {"o": ("below",)}, Policy(o=("whole",)))
        self.assertEqual(journal_lines(session), [])
        session[7] = (BELOW, AB)
        session[70] = (negated(AB),)
        session[700] = (SIZE_1,)
        session.drop(70)
        session.undo()
        session[7] = (AB,)
        self.assertEqual(journal_lines(session), [
            "   1 put     7 a = b or o: a < b",
            "   2 put    70 not a = b",
            "   3 put   700 size <= 1",
            "   4 drop   70 not a = b",
            "   5 undo ",
            "   6 put     7 a = b",
        ])

    def test_many_rows(self):
        session = Session((), {}, Policy())
        for _ in range(600):
            session[999] = (SIZE_1,)
            session.undo()
        lines = journal_lines(session)
        self.assertEqual(len(lines), 1200)
        self.assertEqual(lines[8:11], ["   9 put   999 size <= 1", "  10 undo ", "  11 put   999 size <= 1"])
        self.assertEqual(lines[98:101], ["  99 put   999 size <= 1", " 100 undo ", " 101 put   999 size <= 1"])
        self.assertEqual(lines[998:1001], [" 999 put   999 size <= 1", "1000 undo ", "1001 put   999 size <= 1"])

    def test_refused_changes_and_questions_are_not_in_it(self):
        session = Session((), {}, Policy())
        session[1] = (SIZE_1,)
        session.ask()
        session.what_if({2: (negated(SIZE_1),), 3: (SIZE_1,)})
        session.use(Policy(q=("whole",)))
        self.assertEqual(journal_lines(session), ["   1 put     1 size <= 1"])

    def test_the_list_is_new(self):
        session = Session((), {}, Policy())
        session[1] = (SIZE_1,)
        journal_lines(session).clear()
        self.assertEqual(len(journal_lines(session)), 1)
