"""Writing a condition: from steps to a text of signs."""


class Part:
    """A piece of a condition that is written already; kind is its last step's word."""

    def __init__(self, kind, signs):
        self.kind = kind
        self.signs = signs


def signs_within(part, bracketed):
    """How a part is written within a greater one that asks for brackets around these kinds."""
    if part.kind in bracketed:
        return "(" + part.signs + ")"
    return part.signs


def plain_signs(step):
    kind = step[0]
    if kind == "flag":
        return step[1]
    if kind in ("from", "before"):
        return kind + " " + str(step[1])
    if kind == "rank":
        if step[1] == step[2]:
            return "rank " + str(step[1])
        return "rank " + str(step[1]) + " to " + str(step[2])
    return kind


def joined_signs(kind, left, right):
    if kind == "and":
        return signs_within(left, ("or",)) + " and " + signs_within(right, ("and", "or"))
    return left.signs + " or " + signs_within(right, ("or",))


def written_signs(steps):
    """The condition of these steps as it's written."""
    parts = []
    for step in steps:
        kind = step[0]
        if kind == "not":
            signs = "not " + signs_within(parts.pop(), ("and", "or"))
        elif kind in ("and", "or"):
            right = parts.pop()
            left = parts.pop()
            signs = joined_signs(kind, left, right)
        else:
            signs = plain_signs(step)
        parts.append(Part(kind, signs))
    return parts[0].signs
