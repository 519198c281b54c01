"""Stage 8: integers that satisfy rows, or weights that show that there are none."""

from enoughheard.sums import products
from enoughheard.tableaus import Tableau
from enoughheard.values import are_amounts


def satisfies(rows, value):
    """Whether value is a tuple of integers from 0 on that satisfies all rows."""
    if not are_amounts(value, len(rows[0][0])):
        return False
    return all([products(coefficients, value) >= constant for coefficients, constant in rows])


def are_weights(rows, value):
    """Whether value is weights for the rows."""
    if not are_amounts(value, len(rows)):
        return False
    for column in range(len(rows[0][0])):
        if products([row[0][column] for row in rows], value) > 0:
            return False
    return products([row[1] for row in rows], value) >= 1


def solved(rows):
    """("numbers", integers) that satisfy the rows, or ("weights", weights)."""
    tableau = Tableau()
    tableau.widen(len(rows[0][0]))
    for row in rows:
        tableau.add_row(row)
    tableau.settle()
    if tableau.clash is None:
        return "numbers", tableau.numbers()
    return "weights", tableau.weights()
