"""Writes terms and programs as texts."""


def show_term(term):
    if term[0] == "num":
        return str(term[1])
    if term[0] == "shelf":
        return term[1]
    if term[0] == "op":
        return bracketed([term[1]] + [show_term(inner) for inner in term[2:]])
    if term[0] == "if":
        return bracketed(["if"] + [show_term(inner) for inner in term[1:]])
    if term[0] in ("many", "long"):
        return bracketed(list(term))
    # Was, mine and yours are written as they are called.
    return term[0]


def bracketed(parts):
    return "(" + " ".join(parts) + ")"


def show(program):
    lines = [show_shelf(shelf) for shelf in program[0]]
    for hand in program[1]:
        lines.append("hand " + hand[0])
        lines.extend([show_row(row) for row in hand[1]])
    return "\n".join(lines)


def show_shelf(shelf):
    manner = shelf[1]
    begin = shelf[2]
    parts = ["shelf", shelf[0], manner[0]]
    if manner[0] == "told":
        parts.extend([str(manner[1]), str(begin), show_term(manner[2])])
    elif manner[0] == "bag":
        for word, many in begin:
            parts.extend([word, str(many)])
    elif manner[0] == "row":
        parts.extend(list(begin))
    else:
        parts.append(str(begin))
    return " ".join(parts)


def show_row(row):
    if row[0] == "when":
        return "when " + show_term(row[1]) + " " + show_row(row[2])
    # What is no text in a row is its term.
    return " ".join([part if isinstance(part, str) else show_term(part) for part in row])
