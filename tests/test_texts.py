"""Texts: [33], and the conventions of [3] and [4] for them."""

import re
import unittest
from random import Random

from anything import ODD_STRINGS, all_facts
from looking import FULL, LARGER, SMALL, Looking, drawn
from whatopened.errors import BadText
from whatopened.facts import Facts
from whatopened.houses import House
from whatopened.texts import read, written

HOUSE = House(["b", "a", "c"], ["u", "t"])
ROWS = [("below", "t", "a"), ("not", "u", "b"), ("line", "c", "b"), ("line", "u", "t"), ("not", "a", "c")]
TEXT = "folders b a c\nthings u t\nt below a\nu not b\nb line c\nu line t\na not c\n"
NAME = "[a-z]{1,8}"


def cannot_stand(text):
    """The number of the line that BadText is to tell, None if there is none: told by patterns, a line after the other."""
    lines = re.findall("[^\n]*\n", text)
    nodes, folders = [], 0
    for at, line in enumerate(lines, 1):
        words = line[:-1].split(" ")
        if at <= 2:
            pattern = [f"folders( {NAME})+\n", f"things( {NAME})*\n"][at - 1]
            nodes += words[1:]
            if not re.fullmatch(pattern, line) or len(set(nodes)) < len(nodes):
                return at
            folders = len(nodes) if at == 1 else folders
            continue
        if not re.fullmatch(f"{NAME} (below|not|line) {NAME}\n", line) or line in lines[2:at - 1]:
            return at
        one, word, other = words
        if one not in nodes or other not in nodes or one == other:
            return at
        if nodes.index(one) > nodes.index(other) if word == "line" else nodes.index(other) >= folders:
            return at
    return None if len(lines) >= 2 and text.endswith("\n") else len(lines) + 1


class Texts(Looking):
    def bad(self, line, text):
        self.raised(BadText, "line", line, read, text)

    def reads(self, text):
        """read tells the facts of just this text, or the line that cannot stand; that, None for facts."""
        line = cannot_stand(text)
        if line is None:
            facts = read(text)
            self.assertIs(type(facts), Facts)
            self.assertEqual(written(facts), text)
        else:
            self.bad(line, text)
        return line


class WhatIsWritten(Texts):
    def test_a_line_for_each_fact(self):
        self.assertEqual(written(Facts(HOUSE, ROWS)), TEXT)

    def test_without_things_or_facts(self):
        self.assertEqual(written(Facts(House(["b", "a"]))), "folders b a\nthings\n")
        self.assertEqual(written(Facts(HOUSE)), "folders b a c\nthings u t\n")
        self.assertEqual(written(Facts(House(["a"]), [])), "folders a\nthings\n")
        self.assertEqual(written(Facts(House(["b", "a"]), [("line", "a", "b")])), "folders b a\nthings\nb line a\n")

    def test_facts_as_they_are_told(self):
        facts = Facts(HOUSE, [("line", "t", "u"), ("line", "u", "t"), ["below", "t", "a"], ("below", "t", "a")])
        self.assertEqual(written(facts=facts), "folders b a c\nthings u t\nu line t\nt below a\n")

    def test_facts_that_no_tree_fits(self):
        facts = Facts(HOUSE, [("below", "a", "b"), ("below", "b", "a")])
        self.assertEqual(written(facts), "folders b a c\nthings u t\na below b\nb below a\n")
        self.assertEqual(read(written(facts)), facts)

    def test_read_gives_back_what_was_written(self):
        for house in (*SMALL, *LARGER, *FULL):
            for rows in drawn(house, 131, 12, 16):
                facts = Facts(house, rows)
                self.assertEqual(read(written(facts)), facts)
                self.assertEqual(facts, Facts(house, rows))
            for fact in all_facts(house):
                self.assertEqual(read(written(Facts(house, [fact]))), Facts(house, [fact]))

    def test_names_like_the_words_of_texts(self):
        house = House(["folders", "below", "things"], ["not", "line"])
        facts = Facts(house, [("below", "not", "below"), ("not", "line", "below"), ("line", "not", "line"), ("not", "things", "folders")])
        text = "folders folders below things\nthings not line\nnot below below\nline not below\nnot line line\nthings not folders\n"
        self.assertEqual(written(facts), text)
        self.assertEqual(read(text), facts)

    def test_names_of_eight_letters(self):
        facts = Facts(House(["abcdefgh", "z"], ["tttttttt"]), [("below", "tttttttt", "abcdefgh")])
        self.assertEqual(read(text=written(facts)), facts)


class WhatCannotStand(Texts):
    def test_cut_at_any_place(self):
        for text in (TEXT, "folders a\nthings\n", "folders a b\nthings\na line b\n"):
            ends = [at for at in range(len(text) + 1) if text[:at].endswith("\n") and text[:at].count("\n") >= 2]
            for at in range(len(text) + 1):
                if at in ends:
                    self.assertEqual(written(read(text[:at])), text[:at])
                else:
                    self.bad(text[:at].count("\n") + 1, text[:at])

    def test_no_text_at_all(self):
        for text in ODD_STRINGS:
            self.bad(1, text)
        for text in ("", "\n", "folders", "folders a", "\n\n\n", " "):
            self.bad(1, text)

    def test_a_line_that_lacks(self):
        self.bad(2, "folders a b\n")
        self.bad(2, "folders a b\nthings t")
        self.bad(2, "folders a b\na line b\n")
        self.bad(1, "things t\nfolders a b\n")

    def test_a_line_too_many(self):
        for more in ("\n", " \n", "folders b a c\n", "things u t\n", "things\n", "t below a\n", "a\n", "\n\n"):
            self.bad(8, TEXT + more)
        for more in ("x", " ", "t below b", "folders"):
            self.bad(8, TEXT + more)
        self.assertEqual(len(read(TEXT + "t below b\n")), 6)

    def test_told_twice(self):
        for line in TEXT.split("\n")[2:-1]:
            self.bad(8, TEXT + line + "\n")
        self.bad(4, "folders a\nthings t\nt below a\nt below a\nx\n")

    def test_told_the_other_way_round(self):
        self.bad(3, "folders b a\nthings t\na line b\n")
        self.bad(3, "folders b a\nthings u t\nt line u\n")
        self.bad(3, "folders b a\nthings t\nt line b\n")
        self.bad(4, "folders b a\nthings t\nb line a\na line b\n")

    def test_what_is_no_fact_about_the_house(self):
        for line in ("t below u", "t not u", "a below t", "t below t", "a line a", "x below a", "t not x", "t line x",
                     "t over a", "t Below a", "below t a", "t below", "t below a b", "", "t  below a", " t below a",
                     "t below a ", "t\tbelow a", "t below a\t", "t below A", "line b a"):
            self.bad(3, f"folders b a\nthings u t\n{line}\nt below a\n")
            self.bad(4, f"folders b a\nthings u t\nt below a\n{line}\n")

    def test_wrong_first_lines(self):
        for line in ("folders", "folders ", "folder a", "Folders a", "folders  a", " folders a", "folders a ", "folders A",
                     "folders a a", "folders a b a", "folders abcdefghi", "folders a1", "folders a,b", "folders\ta",
                     "folders a\tb", "folders -", "things a", "", "foldersa", "folders a\r"):
            self.bad(1, line + "\nthings t\n")
            self.bad(1, line + "\n")
            self.bad(1, line)
            self.bad(1, line + "\nthing\nx")

    def test_wrong_second_lines(self):
        for line in ("things ", "thing t", "Things t", "things  t", " things t", "things t ", "things T", "things t t",
                     "things a", "things t a", "things abcdefghi", "things t1", "things\tt", "folders t", "", "t below a",
                     "thingst"):
            self.bad(2, "folders a b\n" + line + "\n")
            self.bad(2, "folders a b\n" + line)
            self.bad(2, "folders a b\n" + line + "\nt below a\nx\n")

    def test_the_first_of_several_wrong_lines(self):
        lines = TEXT.split("\n")[:-1]
        for first in range(len(lines)):
            for second in range(first, len(lines)):
                wrong = [line + " " if at in (first, second) else line for at, line in enumerate(lines)]
                self.bad(first + 1, "\n".join(wrong) + "\n")
                self.bad(first + 1, "\n".join(wrong))

    def test_drawn_texts_beside_patterns(self):
        draw = Random(132)
        found = []
        for turn in range(4000):
            house = draw.choice([*SMALL[1:], *LARGER])
            text = written(Facts(house, draw.choice(drawn(house, turn, 3, 4))))
            for change in range(draw.choice([0, 1, 1, 2])):
                text = self.changed(draw, text)
            found.append(self.reads(text))
        for line in (None, 1, 2, 3, 4, 5):
            self.assertGreater(found.count(line), 60, line)

    def changed(self, draw, text):
        """The text with a line or a sign told otherwise."""
        at = draw.randrange(len(text) + 1)
        lines = text.split("\n")
        turn = draw.randrange(6)
        if turn == 0:
            return text[:at] + draw.choice(["a", "b", "t", " ", "\n", "\t", "Z", "1", "~"]) + text[at:]
        if turn == 1:
            return text[:at] + text[at + 1:]
        if turn == 2:
            return text[:at]
        if turn == 3:
            return "\n".join(draw.sample(lines, len(lines)))
        line = draw.randrange(len(lines))
        words = lines[line].split(" ")
        words = words[::-1] if turn == 4 else [*words, draw.choice(words)]
        return "\n".join([*lines[:line], " ".join(words), *lines[line + draw.randrange(2):]])


if __name__ == "__main__":
    unittest.main()
