"""The search through the tree of orders."""

from enoughheard.errors import LimitExceeded
from enoughheard.nodes import conditions_left, own_rows
from enoughheard.orders import columns
from enoughheard.systems import next_row, run_of, situation_rows, system
from enoughheard.tableaus import Tableau


def with_rows(tableau, rows):
    """The tableau with more rows, settled."""
    longer = tableau.copied()
    for row in rows:
        longer.add_row(row)
    longer.settle()
    return longer


class Search:
    """A search for a run that answers a question with no, through the orders from () on.

    A question is (word, protocol, resilience, empty, situation), as in the claims
    that begin with "avoids" and "ends".
    """

    def __init__(self, question, tries):
        word, protocol, resilience, empty, situation = question
        self.word = word
        self.protocol = protocol
        self.resilience = resilience
        self.empty = empty
        self.situation = situation
        self.tries = tries
        self.looks = 0
        self.found = None

    def look(self, tableau, rows):
        """The tableau with more rows, settled; it is counted as a look."""
        if self.looks >= self.tries:
            raise LimitExceeded(self.tries)
        self.looks = self.looks + 1
        return with_rows(tableau, rows)

    def grow(self, tableau, order):
        """Makes of the first rows of an order's system all of them."""
        tableau.widen(len(columns(self.protocol, order)))
        for row in system(self.protocol, self.resilience, self.empty, order)[tableau.many:]:
            tableau.add_row(row)
        tableau.settle()

    def own_weights(self, tableau, order):
        """The weights for a node's own systems, or None once a run is found."""
        inside = with_rows(tableau, situation_rows(self.protocol, order, self.situation))
        found = []
        for rows in own_rows(self.word, self.protocol, order):
            own = self.look(inside, rows)
            if own.clash is None:
                self.found = run_of(self.protocol, order, own.numbers())
                return None
            found.append(own.weights())
        return found[0] if self.word == "avoids" else tuple(found)

    def node(self, tableau, order):
        """The node of an order, or None once a run is found.

        The tableau has the rows with which the system of the order begins: those
        of the order without its last condition and the next row for this one.
        """
        self.grow(tableau, order)
        weights = self.own_weights(tableau, order)
        if weights is None:
            return None
        branches = []
        for condition in conditions_left(self.protocol, order):
            branch = self.branch(tableau, order, condition)
            if branch is None:
                return None
            branches.append(branch)
        return weights, tuple(branches)

    def branch(self, tableau, order, condition):
        """The branch for a condition, or None once a run is found."""
        after = self.look(tableau, (next_row(self.protocol, order, condition),))
        if after.clash is not None:
            return "barred", after.weights()
        node = self.node(after, order + (condition,))
        if node is None:
            return None
        return "open", node


def answered(question, tries):
    """(tree, None) if it is so, else (None, (numbers, firsts, run))."""
    search = Search(question, tries)
    return search.node(Tableau(), ()), search.found
