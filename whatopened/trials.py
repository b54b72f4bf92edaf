"""Trials: which pairs to ask, one behind the other, until a fact is sure or never so."""

from whatopened.asking import belows, decided, sides
from whatopened.errors import BadFact
from whatopened.facts import is_fact
from whatopened.fitting import must_fit
from whatopened.kinds import is_integer, is_list


def word_of(facts, fact):
    """The verdict on a fact; sure if no tree fits."""
    some, none = sides(facts, [fact])
    return decided(some, none)


def behind(facts, row):
    """The facts behind the answers no and yes to a trial, row being the below that it asks for."""
    some, none = sides(facts, [row])
    return (none, some[0])


def asked_for(facts, fact, pairs):
    """The belows of the pairs that may be asked for a fact; BadFact, BadPair, Unfit."""
    if not is_fact(facts.house, fact):
        raise BadFact(0)
    rows = belows(facts.house, pairs)
    must_fit(facts)
    return rows


def settles(facts, fact, pair):
    """Whether a fact is sure or never so behind the trial of a pair, whatever comes of it."""
    rows = asked_for(facts, fact, [pair])
    # Behind an answer that cannot come no tree fits, and word_of tells that anything is sure.
    return all([word_of(one, fact) != "open" for one in behind(facts, rows[0])])


class Trials:
    """Looks for plans for a fact, rows being the belows that may be asked for."""

    def __init__(self, fact, rows):
        self.fact = fact
        self.rows = rows
        self.known = {}

    def best(self, facts, answers):
        """The least number of trials that settle the fact, and a plan with as many, or None.

        answers has what came of the trial of each pair, None for a pair that is not asked.
        """
        # What came of the trials tells the facts, in whatever order they were asked.
        if answers not in self.known:
            self.known[answers] = self.found(facts, answers)
        return self.known[answers]

    def found(self, facts, answers):
        """What best tells, looked for."""
        word = word_of(facts, self.fact)
        if word != "open":
            return (0, word)
        plans = [self.first(facts, answers, at) for at in range(len(self.rows))]
        return min([one for one in plans if one is not None], key=lambda one: one[0], default=None)

    def first(self, facts, answers, at):
        """What best tells of the plans that ask the pair at an index first; None if this pair is not open."""
        if word_of(facts, self.rows[at]) != "open":
            return None
        no, yes = behind(facts, self.rows[at])
        after_no = self.best(no, (*answers[:at], False, *answers[at + 1:]))
        after_yes = self.best(yes, (*answers[:at], True, *answers[at + 1:]))
        if after_no is None or after_yes is None:
            return None
        return (1 + max(after_no[0], after_yes[0]), (at, after_no[1], after_yes[1]))


def best_plan(facts, fact, pairs):
    """The least number of trials that settle a fact, and a plan with as many, or None; the errors of asked_for."""
    rows = asked_for(facts, fact, pairs)
    return Trials(fact, rows).best(facts, tuple([None for row in rows]))


def fewest_asked(facts, fact, pairs):
    """The least number of trials, one behind the other, that settle a fact whatever the true tree is, or None."""
    best = best_plan(facts, fact, pairs)
    return None if best is None else best[0]


def plan(facts, fact, pairs):
    """A plan for a fact that asks no more trials one behind the other than must be, or None."""
    best = best_plan(facts, fact, pairs)
    return None if best is None else best[1]


def asks(facts, fact, rows, thing):
    """How many trials any object asks one behind the other if it is a plan, or None; a tree must fit."""
    word = word_of(facts, fact)
    if word != "open":
        return 0 if thing == word else None
    if not is_list(thing) or len(thing) != 3:
        return None
    at, *parts = thing
    if not is_integer(at) or not 0 <= at < len(rows) or word_of(facts, rows[at]) != "open":
        return None
    lengths = [asks(told, fact, rows, part) for told, part in zip(behind(facts, rows[at]), parts)]
    return None if None in lengths else 1 + max(lengths)


def is_plan(facts, fact, pairs, thing):
    """How many trials any object asks one behind the other if it is a plan for a fact; None if it is none."""
    rows = asked_for(facts, fact, pairs)
    return asks(facts, fact, rows, thing)
