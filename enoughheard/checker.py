"""Stage 13: the checker, which finds the first fault of a certificate."""

from enoughheard.claims import require_claim
from enoughheard.errors import InvalidClaim
from enoughheard.papers import WrongForm, paper_checks
from enoughheard.trees import tree_fault
from enoughheard.values import is_tuple
from enoughheard.witnesses import witness_fault


def checked(one):
    """The fault that a check finds, or None."""
    front, kind, question, part = one
    if kind == "fault":
        return part
    fault = tree_fault(question, part) if kind == "tree" else witness_fault(question, part)
    if fault is None or front == ():
        return fault
    return front + (fault,)


def first_fault(certificate):
    """The first fault of a certificate, or None for a right one."""
    if not is_tuple(certificate, 3, 3):
        return ("form",)
    verdict, claim, paper = certificate
    try:
        require_claim(claim)
    except InvalidClaim:
        return ("claim",)
    try:
        checks = paper_checks(claim, verdict, paper)
    except WrongForm:
        return ("paper",)
    for one in checks:
        fault = checked(one)
        if fault is not None:
            return fault
    return None
