"""The desk, which is asked with a program's text and a question."""

from copiedhouse.calm import crossings
from copiedhouse.errors import NoAsk
from copiedhouse.lists import hand_named, shelf_named
from copiedhouse.looker import look
from copiedhouse.paperwork import gone_over, paper_of
from copiedhouse.reader import read
from copiedhouse.runs import end_of, run_to_end
from copiedhouse.stories import story
from copiedhouse.words import is_number

MOST_ORDERS = 200
MOST_FIGURES = 10
LENGTHS = {"end": 1, "tells": 2, "from": 4, "story": 1, "crossings": 1}


def answered(text, question):
    program = read(text)
    look(program)
    words = question.split(" ")
    if not is_question(program, words):
        raise NoAsk()
    if words[0] == "end":
        return told_end(program)
    if words[0] == "tells":
        return in_a_row(run_to_end(program).told(words[1]))
    if words[0] == "from":
        return told_from(program, words[1], int(words[2]), words[3])
    if words[0] == "story":
        return told_story(program)
    return "\n".join([in_a_row(crossing) for crossing in crossings(program)])


def is_question(program, words):
    if words[0] not in LENGTHS or len(words) != LENGTHS[words[0]]:
        return False
    if words[0] == "tells":
        return is_called(program[1], words[1])
    if words[0] != "from":
        return True
    if not is_called(program[1], words[1]) or not is_called(program[0], words[3]):
        return False
    return is_number(words[2], MOST_FIGURES) and int(words[2]) <= len(hand_named(program, words[1])[1])


def is_called(tuples, word):
    return word in [one[0] for one in tuples]


def in_a_row(parts):
    return " ".join([str(part) for part in parts])


def told_end(program):
    end = end_of(program)
    if end[0] == "broken":
        return in_a_row(end)
    lines = ["house"]
    for shelf, value in zip(program[0], end[1]):
        lines.append(in_a_row([shelf[0]] + parts_of_value(shelf, value)))
    return "\n".join(lines)


def parts_of_value(shelf, value):
    if shelf[1][0] == "row":
        return list(value)
    if shelf[1][0] != "bag":
        return [value]
    parts = []
    for word, many in value:
        parts.extend([word, many])
    return parts


def told_from(program, H, n, S):
    paper = paper_of(program, H, n, S)
    if paper is None:
        return "none"
    value = in_a_row(parts_of_value(shelf_named(program, S), paper[-1][3]))
    return value + "\n" + in_a_row([place[0] + ":" + str(place[1]) for place in gone_over(program, paper)])


def told_story(program):
    end = end_of(program)
    if end[0] == "broken":
        return in_a_row(end)
    told = story(program, MOST_ORDERS)
    if told[0] == "none":
        return in_a_row(told)
    return in_a_row(("story",) + told[1])
