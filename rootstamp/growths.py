"""The paper of growth: which mark a row had when it had fewer entries."""

from rootstamp.errors import Broken, NoPaper, NoPlace
from rootstamp.places import joint
from rootstamp.rows import check_head, void_terms
from rootstamp.shapes import are_marks, half, is_elder


def growth_turns(count, elder):
    """The steps of the paper: 1 where the elder count is above the half, else 0."""
    turns = []
    early = elder
    rest = count
    while 0 < early < rest:
        ahead = half(rest)
        if early <= ahead:
            turns.append(0)
            rest = ahead
        else:
            turns.append(1)
            early = early - ahead
            rest = rest - ahead
    return turns


def growth_terms(stamper, count, elder, marks):
    if not is_elder(count, elder):
        raise NoPlace()
    turns = growth_turns(count, elder)
    if not are_marks(0 if count == 0 else len(turns) + 1, marks):
        raise NoPaper()
    if elder == 0:
        younger = void_terms(stamper) if count == 0 else [("row", count, marks[0])]
        return (younger, void_terms(stamper))
    return grown_terms(stamper, count, elder, step_marks(turns, marks))


def step_marks(turns, marks):
    """A tuple: the mark within, and a list of the steps from the last one back, each (turn, its mark)."""
    steps = []
    first = 0
    last = len(marks) - 1
    for turn in turns:
        # The marks stand as their entries do in the row, those of the right side behind.
        if turn == 0:
            steps.append((turn, marks[last]))
            last = last - 1
        else:
            steps.append((turn, marks[first]))
            first = first + 1
    return (marks[first], list(reversed(steps)))


def grown_terms(stamper, count, elder, steps):
    younger = []
    older = []
    top = steps[0]
    older_top = steps[0]
    for step in steps[1]:
        younger.append(joint(step[0], top, step[1]))
        top = stamper(younger[-1])
        if step[0] == 1:
            older.append(joint(step[0], older_top, step[1]))
            older_top = stamper(older[-1])
    younger.append(("row", count, top))
    older.append(("row", elder, older_top))
    return (younger, older)


def growth_answer(stamper, head, elder, marks):
    check_head(head)
    terms = growth_terms(stamper, head[0], elder, marks)
    came = stamper(terms[0][-1])
    if came != head[1]:
        raise Broken(head[1], came)
    return stamper(terms[1][-1])
