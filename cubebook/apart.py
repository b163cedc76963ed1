"""Whether a table of some grain answers a question, and by which two values it does not."""

from cubebook.ladders import line_at
from cubebook.picks import picked_everywhere


# Two finest values may lie in one cell where the question asks the same of both of them.
def asked_of(ladder, level, chosen):
    asked = dict([(line[0], ("out", None)) for line in ladder])
    for line in ladder:
        if line[0] in chosen:
            asked[line[0]] = ("in", line_at(line, level))
    return asked


# Being asked the same is handed on from value to value, so it is enough to hold each one against the first beside it.
def apart_on(ladder, kept_level, level, chosen):
    asked = asked_of(ladder, level, chosen)
    firsts = {}
    for line in ladder:
        first = firsts.setdefault(line_at(line, kept_level), line[0])
        if asked[first] != asked[line[0]]:
            return (first, line[0])
    return None


def apart(ladders, kept, grain, picks):
    chosen = picked_everywhere(ladders, picks)
    # Where an axis has nothing picked no key is, so no two keys are asked for unlike things.
    if [] in chosen:
        return None
    for axis, ladder in enumerate(ladders):
        two = apart_on(ladder, kept[axis], grain[axis], chosen[axis])
        if two is not None:
            return (axis, two[0], two[1])
    return None
