import random

from helper import LookerCase
from onelooker.checking import refutes
from onelooker.deciding import Outcome, decide
from onelooker.errors import (BadCard, BadClause, BadLabel, BadLiteral, BadName, NoLabel, NoOwner, NotComplete,
                              NothingToUndo, TooMany)
from onelooker.judging import is_complete
from onelooker.literals import below, negated, same, size_at_most
from onelooker.policies import Policy
from onelooker.problems import Problem
from onelooker.sessions import Session
from onelooker.standing import least_model
from onelooker.trimming import leans
from slow import random_literals, shared_of
from slowasking import forty_terms
from slowrounds import KINDS, random_policy, random_theories

NAMES = ("a", "b")
AB, SIZE_1, SIZE_2 = same("a", "b"), size_at_most(1), size_at_most(2)
BELOW, ABOVE = below("o", "a", "b"), below("o", "b", "a")
TOLD = Policy(o=("same", "other", "size"))
NO_MODEL = {"k": ("kinds", (("k", 1),)), "m": ("kinds", (("k", 2),))}


def started(clauses=None):
    """A session with a below theory and some clauses."""
    session = Session(NAMES, {"o": ("below",)}, TOLD)
    for label, clause in (clauses or {}).items():
        session[label] = clause
    return session


def state(session):
    """What a session shows of itself, but for the total."""
    return session.problem, session.rows, session.policy, list(session), len(session)


class SessionTest(LookerCase):

    def test_a_new_session(self):
        session = started()
        self.assertEqual((session.problem, session.rows), (Problem(NAMES, {"o": ("below",)}, {}), ()))
        self.assertEqual((session.policy, session.total, len(session), list(session)), (TOLD, 0, 0, []))
        self.assertNotIn(1, session)
        self.refuses(NoLabel, {"label": 1}, lambda: session[1])

    def test_errors_of_the_names_and_theories(self):
        self.refuses(BadName, {"value": ("b", "a")}, Session, ("b", "a"), {"O": ("below",)}, TOLD)
        self.refuses(BadName, {"value": "O"}, Session, NAMES, {"O": ("below",)}, TOLD)
        self.refuses(TooMany, {"what": "owners"}, Session, NAMES, dict.fromkeys("opqr", ("below",)), TOLD)
        self.refuses(BadCard, {"value": ("ring", 4)}, Session, NAMES, {"o": ("ring", 4)}, Policy())
        self.refuses(NotComplete, {}, Session, NAMES, NO_MODEL, Policy())
        self.assertEqual(len(Session(NAMES, NO_MODEL, Policy(k=("size",)))), 0)
        self.assertEqual(len(Session((), {}, Policy())), 0)

    def test_put_and_replace(self):
        session = started()
        session[5] = (BELOW, AB, BELOW)
        session[2] = (SIZE_2,)
        self.assertEqual((list(session), len(session), session[5]), ([2, 5], 2, (AB, BELOW)))
        self.assertTrue(5 in session and 2 in session and 1 not in session)
        session[5] = (ABOVE,)
        self.assertEqual(session.problem, Problem(NAMES, {"o": ("below",)}, {2: (SIZE_2,), 5: (ABOVE,)}))
        self.assertEqual(session.rows, (("put", 5, (AB, BELOW)), ("put", 2, (SIZE_2,)), ("put", 5, (ABOVE,))))

    def test_an_equal_clause_put_again_is_a_change(self):
        session = started({1: (AB,)})
        session[1] = (AB, AB)
        self.assertEqual(session.rows, (("put", 1, (AB,)),) * 2)
        session.undo()
        self.assertEqual(list(session), [1])
        session.undo()
        self.assertEqual(list(session), [])

    def test_drop(self):
        session = started({1: (AB,), 30: (BELOW, SIZE_1)})
        session.drop(30)
        self.assertEqual((list(session), session.rows[-1]), ([1], ("drop", 30, (SIZE_1, BELOW))))
        before = state(session)
        self.refuses(NoLabel, {"label": 30}, session.drop, 30)
        self.assertEqual(state(session), before)

    def test_refused_changes(self):
        session = started({7: (AB,)})
        before = state(session)
        for label, clause, error, told in [
                (7, (), BadClause, {"value": ()}), (7, [AB], BadClause, {"value": [AB]}), (0, (AB,), BadLabel, {"value": 0}),
                (1000, (), BadLabel, {"value": 1000}), (True, (AB,), BadLabel, {"value": True}),
                ("7", (AB,), BadLabel, {"value": "7"}), (None, (), BadLabel, {"value": None}),
                (7, (AB, below("q", "a", "b")), NoOwner, {"owner": "q"}), (3, (AB, None), BadLiteral, {"value": None})]:
            self.refuses(error, told, session.__setitem__, label, clause)
            self.assertEqual(state(session), before)
        one = started({1: (AB,)})
        self.refuses(BadLabel, {"value": True}, one.__setitem__, True, (AB,))
        self.assertEqual(list(one), [1])

    def test_a_replacement_at_the_limits(self):
        session = Session((), {}, Policy())
        for label in range(1, 41):
            session[label] = (SIZE_2,)
        self.refuses(TooMany, {"what": "clauses"}, session.__setitem__, 41, (SIZE_1,))
        session[40] = (SIZE_1,)
        self.assertEqual((len(session), session[40], len(session.rows)), (40, (SIZE_1,), 41))
        literals = forty_terms("t", more=8)
        session = Session(("a",), {"t": ("terms",)}, Policy())
        for at in range(5):
            session[at + 1] = tuple(literals[8 * at:8 * at + 8])
        self.refuses(TooMany, {"what": "terms"}, session.__setitem__, 6, (literals[40],))
        session[3] = tuple(literals[40:48])
        self.assertEqual((len(session), session[3]), (5, tuple(sorted(literals[40:48]))))

    def test_undo(self):
        session = started({1: (AB,), 2: (BELOW,)})
        session[1] = (SIZE_1,)
        session.drop(2)
        shown = [{1: (SIZE_1,), 2: (BELOW,)}, {1: (AB,), 2: (BELOW,)}, {1: (AB,)}, {}]
        for clauses in shown:
            session.undo()
            self.assertEqual(session.problem.clauses(), clauses)
            self.assertEqual(session.rows[-1], ("undo", 0, ()))
        before = state(session)
        self.refuses(NothingToUndo, {}, session.undo)
        self.assertEqual(state(session), before)
        self.assertEqual(len(session.rows), 8)

    def test_changes_between_undos(self):
        session = started({1: (AB,), 2: (BELOW,)})
        session.undo()
        session[3] = (SIZE_1,)
        session.undo()
        session.undo()
        self.assertEqual(list(session), [])
        self.refuses(NothingToUndo, {}, session.undo)

    def test_going_back_through_all_changes(self):
        source = random.Random(380)
        for _ in range(30):
            session, problems = started(), []
            for _ in range(12):
                label = source.randint(1, 4)
                if source.random() < 0.3 and problems:
                    session.undo()
                    self.assertEqual(session.problem, problems.pop())
                elif source.random() < 0.4 and label in session:
                    problems.append(session.problem)
                    session.drop(label)
                else:
                    problems.append(session.problem)
                    session[label] = (source.choice((AB, BELOW, ABOVE, SIZE_1)),)
            while problems:
                session.undo()
                self.assertEqual(session.problem, problems.pop())
            self.refuses(NothingToUndo, {}, session.undo)

    def test_earlier_problems_stay(self):
        session = started({1: (AB,)})
        problem = session.problem
        session.drop(1)
        self.assertEqual((list(problem), list(session)), ([1], []))

    def test_later_changes_of_the_arguments(self):
        theories = {"o": ("below",)}
        session = Session(NAMES, theories, TOLD)
        theories["p"] = ("ring", 2)
        self.assertEqual(session.problem.owners, ("o",))


class PolicyTest(LookerCase):

    def test_policies(self):
        session = Session(NAMES, NO_MODEL, Policy(k=("size",)))
        self.refuses(NotComplete, {}, session.use, Policy(k=("same",)))
        self.assertEqual(session.policy, Policy(k=("size",)))
        session.policy = Policy(m=("whole",))
        self.assertEqual(session.policy, Policy(m=("whole",)))
        session.use(Policy(m=("size",)))
        self.assertEqual(session.policy, Policy(m=("size",)))
        with self.assertRaises(NotComplete):
            session.policy = Policy()
        self.assertEqual((session.policy, session.rows), (Policy(m=("size",)), ()))

    def test_it_is_no_change(self):
        session = started({1: (AB,)})
        session.use(Policy(o=("whole",)))
        session.undo()
        self.assertEqual((list(session), session.policy), ([], Policy(o=("whole",))))


class AskTest(LookerCase):

    def asked(self, session, anew):
        """The outcome of ask, after it was seen whether it was decided anew."""
        total = session.total
        found = session.ask()
        self.assertIs(type(found), Outcome)
        self.assertEqual(session.total, total + anew)
        return found

    def test_a_certificate_is_given_again(self):
        session = started({1: (BELOW,), 2: (ABOVE,), 3: (SIZE_2,)})
        first = self.asked(session, True)
        self.assertEqual((first.verdict, leans(first.certificate)), ("certificate", (1, 2)))
        self.assertEqual(self.asked(session, False).certificate, first.certificate)
        session.drop(3)
        session[9] = (SIZE_1, SIZE_2)
        self.assertEqual(self.asked(session, False).certificate, first.certificate)
        session[2] = (ABOVE, SIZE_2)
        self.assertEqual(self.asked(session, True).verdict, "model")
        session.undo()
        self.assertEqual(self.asked(session, False).certificate, first.certificate)

    def test_the_latest_certificate_alone(self):
        session = started({1: (BELOW,), 2: (ABOVE,)})
        self.assertEqual(leans(self.asked(session, True).certificate), (1, 2))
        session.drop(2)
        session.drop(1)
        session[5], session[6] = (AB,), (negated(AB),)
        self.assertEqual(leans(self.asked(session, True).certificate), (5, 6))
        session.drop(6)
        session.drop(5)
        session[1], session[2] = (BELOW,), (ABOVE,)
        self.assertEqual(leans(self.asked(session, True).certificate), (1, 2))

    def test_the_clause_must_be_the_same(self):
        session = started({1: (BELOW,), 2: (ABOVE,)})
        self.asked(session, True)
        session[1] = (ABOVE,)
        self.assertEqual(self.asked(session, True).verdict, "model")
        session[1] = (BELOW, BELOW)
        self.assertEqual(self.asked(session, False).verdict, "certificate")
        session.drop(1)
        session[3] = (BELOW,)
        self.assertEqual(self.asked(session, True).verdict, "certificate")

    def test_a_model_is_given_again(self):
        session = started({1: (BELOW, AB)})
        first = self.asked(session, True)
        self.assertEqual(first.model, least_model(session.problem))
        session[2] = (SIZE_2,)
        self.assertEqual(self.asked(session, False).model, first.model)
        session[3] = (negated(AB),)
        second = self.asked(session, True)
        self.assertEqual(second.model, least_model(session.problem))
        self.assertEqual(second.model.cell, (2, (0, 1)))

    def test_a_model_that_is_not_the_least_one(self):
        session = started({1: (BELOW,)})
        first = self.asked(session, True)
        session.drop(1)
        found = self.asked(session, False)
        self.assertEqual(found.model, first.model)
        self.assertNotEqual(found.model, least_model(session.problem))
        self.assertEqual((found.verdict, found.certificate, found.pick), ("model", None, None))

    def test_the_latest_model_alone(self):
        session = started({1: (BELOW,)})
        self.asked(session, True)
        session[1] = (ABOVE,)
        second = self.asked(session, True)
        session[1] = (BELOW,)
        self.asked(session, True)
        session.drop(1)
        self.assertNotEqual(self.asked(session, False).model, second.model)

    def test_a_certificate_comes_first(self):
        session = started({1: (AB,)})
        model = self.asked(session, True)
        session[2] = (negated(AB),)
        shown = self.asked(session, True)
        session[3] = (SIZE_1,)
        self.assertEqual(self.asked(session, False).certificate, shown.certificate)
        session.drop(2)
        self.assertEqual(self.asked(session, False).model, model.model)

    def test_theories_without_a_common_model(self):
        session = Session(NAMES, NO_MODEL, Policy(k=("size",)))
        self.assertEqual(leans(self.asked(session, True).certificate), ())
        session[4] = (AB,)
        self.assertEqual(self.asked(session, False).verdict, "certificate")

    def test_no_theories(self):
        session = Session((), {}, Policy())
        self.assertEqual(self.asked(session, True).model.cell, (1, ()))
        session[1] = (negated(SIZE_1),)
        self.assertEqual(self.asked(session, True).model.cell, (2, ()))
        session[2] = (SIZE_1,)
        self.assertEqual(self.asked(session, True).verdict, "certificate")

    def test_samples(self):
        """By the words of point 177, with the answers of the session itself."""
        source = random.Random(381)
        again = {"model": 0, "certificate": 0}
        for _ in range(40):
            names = ("a", "b", "c")[:source.randint(0, 3)]
            theories = random_theories(source, names)
            policy = Policy.alike(list(theories), KINDS)
            session, model, shown = Session(names, theories, policy), None, None
            literals = source.sample(shared_of(names), 3)
            literals += [each for owner in theories for each in random_literals(source, owner, theories[owner], names, 2)]
            for _ in range(10):
                self.change(source, session, literals)
                total, found = session.total, session.ask()
                verdict = decide(session.problem, policy).verdict
                self.assertEqual(found.verdict, verdict)
                if shown is not None and all(session.problem.clauses().get(label) == shown[1][label] for label in shown[1]):
                    self.assertEqual((found.certificate, session.total), (shown[0], total))
                    again["certificate"] += 1
                elif model is not None and model.satisfies(session.problem):
                    self.assertEqual((found.model, session.total), (model, total))
                    again["model"] += 1
                else:
                    self.assertEqual(session.total, total + 1)
                    if verdict == "model":
                        model = found.model
                        self.assertEqual(model, least_model(session.problem))
                    else:
                        self.assertTrue(refutes(session.problem, found.certificate))
                        shown = (found.certificate, {at: session[at] for at in leans(found.certificate)})
        self.assertTrue(min(again.values()) > 50, again)

    def change(self, source, session, literals):
        """Some change of a session."""
        chance = source.random()
        if chance < 0.25 and len(session):
            session.drop(source.choice(list(session)))
        elif chance < 0.4 and len(session):
            session.undo()
        else:
            session[source.randint(1, 6)] = tuple(source.choices(literals, k=source.randint(1, 2)))


class WhatIfTest(LookerCase):

    def test_what_ask_then_returns(self):
        source = random.Random(382)
        for _ in range(60):
            names = ("a", "b")[:source.randint(0, 2)]
            theories = random_theories(source, names)
            policy = random_policy(source, theories, 0.8)
            if not is_complete(policy, names, theories):
                continue
            session, other = Session(names, theories, policy), Session(names, theories, policy)
            literals = source.sample(shared_of(names), 2)
            literals += [each for owner in theories for each in random_literals(source, owner, theories[owner], names, 2)]
            for _ in range(4):
                clauses = {source.randint(1, 5): (source.choice(literals),) for _ in range(source.randint(0, 3))}
                before = state(session)
                found = session.what_if(clauses)
                self.assertEqual(state(session), before)
                for label in sorted(clauses):
                    other[label] = clauses[label]
                wanted = other.ask()
                for _ in clauses:
                    other.undo()
                self.assertEqual((found.verdict, found.model, found.certificate),
                                 (wanted.verdict, wanted.model, wanted.certificate))
                self.assertEqual(session.total, other.total)
                session[1] = other[1] = (source.choice(literals),)
                self.assertEqual(session.problem, other.problem)

    def test_an_example(self):
        session = started({1: (BELOW,)})
        before = state(session)
        self.assertEqual(session.what_if({2: (ABOVE,)}).verdict, "certificate")
        self.assertEqual(session.what_if({1: (AB,), 4: (SIZE_1,)}).model.cell, (1, (0, 0)))
        self.assertEqual(session.what_if({}).verdict, "model")
        self.assertEqual(state(session), before)
        session.undo()
        self.refuses(NothingToUndo, {}, session.undo)

    def test_the_total_and_the_answers_are_kept(self):
        session = started({1: (BELOW,)})
        shown = session.what_if({2: (ABOVE,)})
        self.assertEqual(session.total, 1)
        session[2] = (ABOVE,)
        self.assertEqual((session.ask().certificate, session.total), (shown.certificate, 1))
        session.drop(2)
        model = session.what_if({3: (SIZE_2,)}).model
        self.assertEqual((session.ask().model, session.total), (model, 2))

    def test_an_error_at_the_second_clause(self):
        session = started({1: (BELOW,), 3: (AB, BELOW)})
        before, total = state(session), session.total
        self.refuses(BadClause, {"value": ()}, session.what_if, {4: (), 2: (ABOVE,)})
        self.refuses(NoOwner, {"owner": "q"}, session.what_if, {9: (), 1: (AB,), 5: (below("q", "a", "b"),)})
        self.refuses(BadLabel, {"value": 0}, session.what_if, {1: (), 0: (AB,)})
        self.refuses(BadLabel, {"value": 1000}, session.what_if, {1000: (), 999: (AB,)})
        self.assertEqual((state(session), session.total), (before, total))
        session.undo()
        self.assertEqual(list(session), [1])

    def test_the_limit_of_clauses(self):
        session = Session((), {}, Policy())
        for label in range(1, 40):
            session[label] = (SIZE_2,)
        before = state(session)
        self.refuses(TooMany, {"what": "clauses"}, session.what_if, {50: (SIZE_1,), 51: (SIZE_1,)})
        self.assertEqual(state(session), before)
        self.assertEqual(session.what_if({50: (SIZE_1,), 39: (SIZE_1,)}).verdict, "model")

    def test_the_argument_stays(self):
        clauses = {4: (SIZE_1, AB), 2: (AB,)}
        started().what_if(clauses)
        self.assertEqual(list(clauses.items()), [(4, (SIZE_1, AB)), (2, (AB,))])
