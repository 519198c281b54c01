"""The search through the tree of orders."""

from enoughheard.errors import LimitExceeded
from enoughheard.orders import columns
from enoughheard.protocols import conditions_of
from enoughheard.systems import next_row, run_of, situation_rows, system
from enoughheard.tableaus import Tableau


class Search:
    """A search for a run into a situation, through the orders from () on."""

    def __init__(self, protocol, resilience, empty, situation, tries):
        self.protocol = protocol
        self.resilience = resilience
        self.empty = empty
        self.situation = situation
        self.tries = tries
        self.looks = 0
        self.found = None

    def look(self, tableau, rows):
        """The tableau with more rows, settled."""
        if self.looks == self.tries:
            raise LimitExceeded(self.tries)
        self.looks += 1
        looked = tableau.copied()
        for row in rows:
            looked.add_row(row)
        looked.settle()
        return looked

    def grow(self, tableau, order):
        """Makes of the first rows of an order's system all of them."""
        tableau.widen(len(columns(self.protocol, order)))
        for row in system(self.protocol, self.resilience, self.empty, order)[tableau.many:]:
            tableau.add_row(row)
        tableau.settle()

    def node(self, tableau, order):
        """The node of an order, or None once a run into the situation is found.

        The tableau has the rows with which the system of the order begins: those
        of the order without its last condition and the next row for this one.
        """
        self.grow(tableau, order)
        own = self.look(tableau, situation_rows(self.protocol, order, self.situation))
        if own.clash is None:
            self.found = run_of(self.protocol, order, own.numbers())
            return None
        branches = []
        for condition in conditions_of(self.protocol):
            if condition not in order:
                branch = self.branch(tableau, order, condition)
                if branch is None:
                    return None
                branches.append(branch)
        return own.weights(), tuple(branches)

    def branch(self, tableau, order, condition):
        """The branch for a condition, or None once a run into the situation is found."""
        after = self.look(tableau, (next_row(self.protocol, order, condition),))
        if after.clash is not None:
            return "barred", after.weights()
        node = self.node(after, order + (condition,))
        if node is None:
            return None
        return "open", node
