"""What the document promises over the whole program: roads through many modules."""

import ast
import pathlib
import random

import onelooker
from helper import LookerCase
from onelooker.asking import certificate_for, facts, follows
from onelooker.certtexts import read_certificate, write_certificate
from onelooker.checking import Checker, check, refutes
from onelooker.deciding import decide
from onelooker.gluing import described
from onelooker.interpolants import interpolant
from onelooker.judging import is_complete, stuck_problem
from onelooker.journal import journal_lines
from onelooker.policies import Policy
from onelooker.reading import read_clause, read_problem
from onelooker.reducing import extended, reduced
from onelooker.sessions import Session
from onelooker.standing import standing
from onelooker.trimming import leans, merged, renamed_certificate, tightened, trimmed
from onelooker.writing import write_clause, write_problem
from slow import random_problem
from slowrounds import random_theories

TEXT = """names a b c
theory k kinds k:1 l:0
theory o below
theory t terms
1. k: a is k
2. k: b is k
3. o: a < c or t: c = f(a)
5. not o: a < c or o: c < b
8. not t: c = f(b)
12. not a = c or o: a < b"""


class RoadTest(LookerCase):

    def policy_for(self, problem):
        """A complete policy with few pairs."""
        policy = reduced(extended(Policy(), problem.names, problem.theories()), problem.names, problem.theories())
        self.assertTrue(is_complete(policy, problem.names, problem.theories()))
        return policy

    def check_certificate(self, problem, certificate):
        """The certificate is written, read back, and checked, and what is made of it is accepted too."""
        text = write_certificate(certificate)
        again = read_certificate(text, problem.names, problem.theories())
        self.assertEqual(again, certificate)
        self.assertEqual(Checker(problem)(again), ())
        for made in (merged(again), tightened(problem, again), trimmed(merged(tightened(problem, again)))):
            self.assertTrue(refutes(problem, made))
            self.assertEqual(read_certificate(write_certificate(made), problem.names, problem.theories()), made)
        self.assertTrue(refutes(problem.only(leans(again)), again))

    def test_from_the_text_to_the_certificate(self):
        problem = read_problem(TEXT)
        self.assertEqual(write_problem(problem), TEXT)
        policy = self.policy_for(problem)
        outcome = decide(problem, policy)
        self.assertEqual(outcome.verdict, "certificate")
        self.check_certificate(problem, outcome.certificate)
        renamed = problem.renamed({"a": "z9"})
        self.assertTrue(refutes(renamed, renamed_certificate(outcome.certificate, {"a": "z9"})))
        self.assertEqual(decide(renamed, policy).verdict, "certificate")
        for label in problem:
            rest = problem.drop(label)
            self.assertEqual(decide(rest, policy).verdict == "model", len(standing(rest)) > 0)

    def test_a_problem_that_stands(self):
        problem = read_problem(TEXT).drop(8)
        outcome = decide(problem, self.policy_for(problem))
        self.assertEqual(outcome.verdict, "model")
        self.assertTrue(outcome.model.satisfies(problem))
        self.assertEqual(standing(described(outcome.model)).rows, (outcome.model.cell,))
        for literal in facts(problem):
            self.assertTrue(outcome.model.holds(literal))
            shown = certificate_for(problem, (literal,), self.policy_for(problem))
            self.assertLessEqual(set(check(problem, shown)), {literal})

    def test_samples(self):
        source = random.Random(390)
        seen = {"model": 0, "certificate": 0}
        while min(seen.values()) < 25:
            problem = random_problem(source, clauses=6, longest=2)
            problem = read_problem(write_problem(problem))
            outcome = decide(problem, self.policy_for(problem))
            if outcome.verdict == "certificate":
                self.check_certificate(problem, outcome.certificate)
            else:
                self.assertTrue(outcome.model.satisfies(problem))
            seen[outcome.verdict] += 1

    def test_all_changes_of_a_session_are_undone(self):
        problem = read_problem(TEXT)
        session = Session(problem.names, problem.theories(), self.policy_for(problem))
        for label in problem:
            session[label] = problem[label]
            session.ask()
        self.assertEqual((session.problem, session.ask().verdict), (problem, "certificate"))
        self.assertTrue(refutes(session.problem, session.ask().certificate))
        for label in reversed(problem.labels):
            session.undo()
            self.assertNotIn(label, session)
            self.assertEqual(session.ask().verdict, "model" if len(standing(session.problem)) > 0 else "certificate")
        self.assertEqual(session.problem, problem.only(()))
        lines = journal_lines(session)
        self.assertEqual(lines[2], "   3 put     3 o: a < c or t: c = f(a)")
        self.assertEqual(lines[6:], [f"{number:>4} undo " for number in range(7, 13)])

    def test_a_stuck_problem_is_decided_by_a_complete_policy(self):
        source = random.Random(391)
        seen = 0
        while seen < 15:
            names = ("a", "b", "c")[:source.randint(0, 3)]
            theories = random_theories(source, names)
            problem = stuck_problem(Policy(), names, theories)
            if problem is not None:
                problem = read_problem(write_problem(problem))
                self.assertEqual(decide(problem, Policy()).verdict, "open")
                outcome = decide(problem, self.policy_for(problem))
                self.check_certificate(problem, outcome.certificate)
                self.assertEqual(leans(outcome.certificate), problem.labels)
                seen += 1

    def test_an_interpolant_of_two_texts(self):
        left = read_problem("names a b\ntheory k kinds k:1 l:0\n1. k: a is k\n2. k: b is k")
        right = read_problem("names a b\ntheory o below\n4. o: a < b or o: b < a\n6. size <= 2 or not o: a < b")
        outcome = decide(left + right, Policy(k=("same",), o=("whole",)))
        self.check_certificate(left + right, outcome.certificate)
        found = interpolant(left, right, outcome.certificate)
        self.assertTrue(standing(left).within(found) and len(found & standing(right)) == 0)

    def test_clauses_that_follow_are_written_and_read(self):
        problem = read_problem(TEXT).drop(8)
        for text, wanted in (("a = b", True), ("a = c or t: c = f(b)", True), ("a = c", False)):
            clause = read_clause(text, problem.names, problem.theories())
            self.assertEqual(write_clause(clause), text)
            self.gives(wanted, lambda asked: follows(problem, asked), clause)


class ProgramTest(LookerCase):

    def test_no_clock_no_random_source_and_no_files(self):
        """Point 2: no file of the program imports anything but its own modules."""
        for path in pathlib.Path(onelooker.__file__).parent.glob("*.py"):
            for node in ast.walk(ast.parse(path.read_text())):
                self.assertNotIsInstance(node, ast.Import, path.name)
                if isinstance(node, ast.ImportFrom):
                    self.assertTrue(node.module.startswith("onelooker."), path.name)

    def test_the_same_arguments_give_the_same(self):
        """What is not specified is still the same in each run, because nothing depends on the order of a set."""
        problem = read_problem(TEXT)
        first = decide(problem, Policy(k=("same", "whole")))
        second = decide(read_problem(TEXT), Policy(k=("whole", "same")))
        self.assertEqual((first.verdict, first.certificate), (second.verdict, second.certificate))
