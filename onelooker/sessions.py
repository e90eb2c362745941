"""Sessions, in which the clauses of a problem change (points 175 to 178)."""

from onelooker.deciding import decide
from onelooker.errors import NotComplete, NothingToUndo
from onelooker.judging import is_complete
from onelooker.problems import Problem
from onelooker.trimming import leans


class Session:
    """A problem whose clauses are put, replaced and dropped, with the answers about it."""

    def __init__(self, names, theories, policy):
        self.problem = Problem(names, theories, {})
        self.rows = ()
        self._check_complete(policy)
        self._policy = policy
        self._earlier = ()
        self._total = 0
        self._refuted = None
        self._leaned = {}
        self._modelled = None

    def _check_complete(self, policy):
        """Raises NotComplete unless the policy is complete for the names and theories."""
        if not is_complete(policy, self.problem.names, self.problem.theories()):
            raise NotComplete()

    def __len__(self):
        return len(self.problem)

    def __iter__(self):
        return iter(self.problem.labels)

    def __contains__(self, x):
        return x in self.problem.labels

    def __getitem__(self, at):
        return self.problem[at]

    def __setitem__(self, at, worth):
        self._put(at, worth)

    @property
    def policy(self):
        """The policy."""
        return self._policy

    @policy.setter
    def policy(self, value):
        self._check_complete(value)
        self._policy = value

    @property
    def total(self):
        """How often ask has decided the problem anew."""
        return self._total

    def use(self, policy):
        """Assigns the policy."""
        self.policy = policy

    def _change(self, problem, row):
        """Makes a change, after which the problem is this one."""
        self._earlier = (*self._earlier, self.problem)
        self.problem = problem
        self.rows = (*self.rows, row)

    def _put(self, label, clause):
        """Puts a clause, or replaces the one of the label."""
        left = self.problem.drop(label) if label in self.problem else self.problem
        changed = left.put(label, clause)
        self._change(changed, ("put", label, changed[label]))

    def drop(self, label):
        """Drops the clause of a label."""
        dropped = self.problem[label]
        self._change(self.problem.drop(label), ("drop", label, dropped))

    def undo(self):
        """Takes back the latest change that still stands."""
        if len(self._earlier) == 0:
            raise NothingToUndo()
        self.problem = self._earlier[-1]
        self._earlier = self._earlier[:-1]
        self.rows = (*self.rows, ("undo", 0, ()))

    def _decide(self):
        """The outcome of the problem, which is decided anew and kept."""
        outcome = decide(self.problem, self._policy)
        self._total += 1
        if outcome.verdict == "model":
            self._modelled = outcome
        else:
            self._refuted = outcome
            self._leaned = {label: self.problem[label] for label in leans(outcome.certificate)}
        return outcome

    def ask(self):
        """The outcome of the problem, an earlier one if it still holds."""
        clauses = self.problem.clauses()
        if self._refuted is not None and all([clauses.get(label) == self._leaned[label] for label in self._leaned]):
            return self._refuted
        if self._modelled is not None and self._modelled.model.satisfies(self.problem):
            return self._modelled
        return self._decide()

    def what_if(self, clauses):
        """The outcome if some clauses are put; afterwards the problem is as before."""
        problem, rows, earlier = self.problem, self.rows, self._earlier
        try:
            for label in sorted(list(clauses)):
                self._put(label, clauses[label])
            return self.ask()
        finally:
            self.problem, self.rows, self._earlier = problem, rows, earlier
