"""The forms of terms and rows: what stands in them."""

ASKING = ("shelf", "many", "long")


def terms_in(term):
    if term[0] == "op":
        return term[2:]
    if term[0] == "if":
        return term[1:]
    return ()


def words_in(term):
    return 1 + sum([words_in(inner) for inner in terms_in(term)])


def depth(term):
    return max([1 + depth(inner) for inner in terms_in(term)], default=0)


def asked_shelves(term):
    # A dict keeps the order in which the shelves are first met.
    met = {}
    gather_shelves(term, met)
    return tuple(met)


def gather_shelves(term, met):
    if term[0] in ASKING:
        met[term[1]] = True
    for inner in terms_in(term):
        gather_shelves(inner, met)


def deed_of(row):
    if row[0] == "when":
        return row[2]
    if row[0] in ("split", "join"):
        return None
    return row


def shelf_of(deed):
    if deed[0] == "tell":
        return None
    return deed[1]


# In and out have no term.
def term_of(deed):
    if deed[0] == "tell":
        return deed[1]
    if deed[0] in ("in", "out"):
        return None
    return deed[2]
