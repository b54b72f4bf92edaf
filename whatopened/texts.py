"""Texts: facts about a house as lines of words."""

from whatopened.errors import BadText
from whatopened.facts import Facts, as_told, is_fact
from whatopened.houses import House, wrong_part

HEADS = ("folders", "things")


def written(facts):
    """The text of facts."""
    house = facts.house
    rows = [("folders", *house.folders), ("things", *house.things)]
    rows = rows + [(one, word, other) for word, one, other in facts.told()]
    return "".join([" ".join(row) + "\n" for row in rows])


def house_of(lines):
    """The house that the first two lines of a text tell."""
    parts = [(), ()]
    for at, line in enumerate(lines[:2]):
        word, *names = line.split(" ")
        parts[at] = names
        if word != HEADS[at] or wrong_part(parts[0], parts[1]) is not None:
            raise BadText(at + 1)
    if len(lines) < 2:
        raise BadText(len(lines) + 1)
    return House(*parts)


def fact_of(line):
    """What a line tells, if it tells a fact."""
    words = line.split(" ")
    return (words[1], words[0], words[2]) if len(words) == 3 else None


def read(text):
    """The facts that have a text."""
    # What stands behind the last line feed is no line.
    *lines, rest = text.split("\n")
    house = house_of(lines)
    facts = Facts(house)
    for at, line in enumerate(lines[2:], 3):
        fact = fact_of(line)
        if not is_fact(house, fact) or fact != as_told(house, fact) or fact in facts:
            raise BadText(at)
        facts = facts + [fact]
    if rest != "":
        raise BadText(len(lines) + 1)
    return facts
