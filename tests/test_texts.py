"""Point [7], read_wishes, and promise (14)."""

import random
import re
import unittest

from anyvalues import Tests, all_groups, random_wishes
from calmgroups.errors import InvalidText
from calmgroups.groups import Collection
from calmgroups.texts import read_wishes
from calmgroups.wishes import Wishes, is_strict, plain

HOUSE = "0: 01 > 0\n1: 1 = 01"
TRIO = "0: 01 > 012 > 0\n1: 01 = 012 > 1 = 12\n2: 2 = 12 > 012"
SIX = "0: 0\n1: 1\n2: 2\n3: 3\n4: 4\n5: 5"


def plain_key(group):
    return (len(group), group)


def text_of(n, groups, tied, chance):
    """A text of these groups, none of them checked, each line in an order of chance."""
    lines = []
    for member in range(n):
        own = sorted([group for group in groups if member in group], key=plain_key)
        ranks = {group: chance.randint(0, 2) if tied else chance.random() for group in own}
        steps = [[group for group in own if ranks[group] == rank] for rank in sorted(set(ranks.values()))]
        words = [" = ".join("".join(str(one) for one in group) for group in step) for step in steps]
        lines.append(f"{member}: " + " > ".join(words))
    return "\n".join(lines)


def groups_told(line):
    """The groups of a line that is made of the right signs, rank by rank."""
    steps = [step.split(" = ") for step in line[3:].split(" > ")]
    return [[tuple("012345".index(figure) for figure in word) for word in step] for step in steps]


def is_wrong(lines, k):
    """Whether line k is wrong, where those ahead are right."""
    if k >= 6 or not re.fullmatch(f"{k}: [0-5]+( [>=] [0-5]+)*", lines[k]):
        return True
    steps = groups_told(lines[k])
    groups = [group for step in steps for group in step]
    for group in groups:
        if group != tuple(sorted(set(group))) or group[-1] >= len(lines) or k not in group:
            return True
    if len(groups) != len(set(groups)) or any(step != sorted(step, key=plain_key) for step in steps):
        return True
    earlier = [{group for step in groups_told(line) for group in step} for line in lines[:k]]
    for j, others in enumerate(earlier):
        if any(j in group and group not in others for group in groups):
            return True
        if any(k in group and group not in groups for group in others):
            return True
    return (k,) not in groups or len(set(groups).union(*earlier)) > 24


def first_wrong(text):
    """The place at which the first wrong line begins, None if there is none."""
    lines = text.split("\n")
    for k in range(len(lines)):
        if is_wrong(lines, k):
            return sum(len(line) + 1 for line in lines[:k])
    return None


class Texts(Tests):
    def refused(self, text, at):
        """The text is refused at this place, and the oracle of this file says the same."""
        with self.assertRaises(InvalidText) as caught:
            read_wishes(text)
        self.assertIs(type(caught.exception), InvalidText)
        self.assertIs(caught.exception.text, text)
        self.assertIs(type(caught.exception.at), int)
        self.assertEqual(caught.exception.at, at, text)
        self.assertEqual(first_wrong(text), at, text)


class Right(Texts):
    def test_one_member(self):
        self.same(read_wishes("0: 0").ranks, ((0,),))
        self.assertEqual(read_wishes("0: 0"), Wishes(Collection(1, [(0,)]), ((0,),)))

    def test_plain_form(self):
        wishes = read_wishes(text=TRIO)
        self.assertIs(type(wishes), Wishes)
        self.same(wishes.collection.groups, ((0,), (1,), (2,), (0, 1), (1, 2), (0, 1, 2)))
        self.same(wishes.collection.n, 3)
        self.same(wishes.ranks, ((2, 0, 1), (1, 0, 1, 0), (0, 0, 1)))
        self.assertEqual(read_wishes(HOUSE), Wishes(Collection(2, [(0,), (1,), (0, 1)]), ((1, 0), (0, 0))))
        self.assertEqual(read_wishes(SIX), Wishes(Collection(6, [(k,) for k in range(6)]), ((0,),) * 6))

    def test_text_of_wishes_is_read_back(self):
        strict = set()
        for seed in range(400):
            wishes = random_wishes(seed)
            back = read_wishes(str(wishes))
            self.assertEqual(back, plain(wishes))
            self.same(back.ranks, plain(wishes).ranks)
            self.same(back.collection.groups, plain(wishes).collection.groups)
            self.assertEqual(str(back), str(wishes))
            self.assertIsNone(first_wrong(str(wishes)))
            strict.add((wishes.collection.n, is_strict(wishes)))
        # Of one member alone all wishes are strict.
        self.assertEqual(len(strict), 11)

    def test_texts_of_groups_of_chance(self):
        for seed in range(200):
            chance = random.Random(seed)
            n = chance.randint(1, 6)
            more = [group for group in all_groups(n) if len(group) > 1]
            groups = [(k,) for k in range(n)] + chance.sample(more, min(len(more), chance.randint(0, 24 - n)))
            text = text_of(n, groups, seed % 2 == 0, chance)
            wishes = read_wishes(text)
            self.assertEqual(str(wishes), text)
            self.assertEqual(list(wishes.collection.groups), sorted(groups, key=plain_key))


class Wrong(Texts):
    def test_no_line(self):
        self.refused("", 0)
        self.refused("\n", 0)
        self.refused("\n0: 0", 0)

    def test_line_feed_at_the_end(self):
        self.refused("0: 0\n", 5)
        self.refused(HOUSE + "\n", len(HOUSE) + 1)
        self.refused(SIX + "\n", len(SIX) + 1)
        self.refused("0: 0\n\n", 5)

    def test_a_sign_too_many_too_few_another(self):
        for text in ("0: 0 >", "0: 0 > ", "0: > 0", "0:  > 0", "0: 0 = ", "0: 0 =", "0: = 0", "0: ", "0:", "0", ": 0",
                     "0: 0.", "0: 0,", "0; 0", "0: 00", "0: a", "0: 0x", "-0: 0", "0: -0", "0: +0", "0: (0,)", "0: 0\r",
                     "0: 0\t", "\t0: 0", "0: 0\r\n1: 1", "0: 0\x0b", "0: 0\x85", "0: 0\u2028", "x", "0: 0\x00",
                     "0: 0: 0", "0:: 0", "00: 0", "0: 0_0", "0: ''"):
            self.refused(text, 0)
        for line in ("1: 1 >> 01", "1: 1 >= 01", "1: 1 < 01", "1: 1 == 01", "1: 1 > > 01", "1: 1 01", "1: 1, 01",
                     "1: 101", "1: 1 > = 01", "1: 1 > 01 >", "1: 1 > 01 = ", "1: 1 > 01;", "1 1 > 01"):
            self.refused("0: 01 > 0\n" + line, 10)

    def test_blanks(self):
        for line in ("1: 1 = 01 ", " 1: 1 = 01", "1:  1 = 01", "1: 1  = 01", "1: 1 =  01", "1:1 = 01", "1 : 1 = 01",
                     "1: 1= 01", "1: 1 =01", "1: 1=01", "1: 1 = 0 1", "1: 1 > 01 ", "1: 1>01", "1:\t1 = 01", ":1 1 = 01",
                     "1: 1\t= 01", "1: 1\u00a0= 01"):
            self.refused("0: 01 > 0\n" + line, 10)
            self.refused(line.replace("1", "0"), 0)

    def test_wrong_member_ahead_of_the_colon(self):
        self.refused("1: 1", 0)
        self.refused("0: 01 > 0\n0: 1 = 01", 10)
        self.refused("0: 01 > 0\n2: 1 = 01", 10)
        self.refused("0: 01 > 0\n: 1 = 01", 10)
        self.refused("0: 01 > 0\n01: 1 = 01", 10)
        self.refused("a: 0", 0)

    def test_lines_that_lack_or_are_doubled_or_stand_elsewhere(self):
        lines = TRIO.split("\n")
        self.refused("\n".join(lines[1:]), 0)
        self.refused("\n".join(lines[:1] + lines[2:]), 0)
        self.refused("0: 01 > 0\n2: 2", 10)
        self.refused("\n".join(lines[:2]), 0)
        self.refused("0: 0\n1: 1\n3: 3", 10)
        self.refused("\n".join(lines[:1] + lines), len(lines[0]) + 1)
        self.refused("\n".join(lines + lines[2:]), len(TRIO) + 1)
        self.refused("\n".join([lines[1], lines[0], lines[2]]), 0)
        self.refused("\n".join([lines[0], lines[2], lines[1]]), len(lines[0]) + 1)
        self.refused(lines[0] + "\n\n" + "\n".join(lines[1:]), len(lines[0]) + 1)

    def test_seven_lines(self):
        self.refused(SIX + "\n6: 6", len(SIX) + 1)
        self.refused(SIX + "\n5: 5", len(SIX) + 1)
        self.refused(SIX + "\n6: 06", len(SIX) + 1)
        self.refused(SIX + "\n6: 6\n7: 7", len(SIX) + 1)
        self.refused("0: 0 > 06\n" + SIX[5:] + "\n6: 06 > 6", 0)
        self.refused("\n".join(f"{k}: {k}" for k in range(300)), len(SIX) + 1)

    def test_groups_of_a_line(self):
        self.refused("0: 0 > 1\n1: 1", 0)
        self.refused("0: 0 > 01\n1: 1 > 01 > 0", 10)
        self.refused("0: 0 > 0", 0)
        self.refused("0: 0 = 0", 0)
        self.refused("0: 0 > 01 > 01\n1: 1 > 01", 0)
        self.refused("0: 0 > 01 > 0\n1: 1 > 01", 0)
        self.refused("0: 0 > 10\n1: 1 > 10", 0)
        self.refused("0: 0 > 01\n1: 1 > 10", 10)
        self.refused("0: 0 > 001\n1: 1 > 001", 0)
        self.refused("0: 0 > 021\n1: 1 > 021\n2: 2 > 021", 0)

    def test_members_without_a_line(self):
        self.refused("0: 01 > 0", 0)
        self.refused("0: 0 > 05", 0)
        self.refused("0: 0\n1: 1 > 12", 5)
        self.refused("0: 0 > 06", 0)
        self.refused("0: 0 > 09", 0)

    def test_groups_of_one_rank_in_plain_order(self):
        self.refused("0: 01 = 0\n1: 1 = 01", 0)
        self.refused("0: 0 = 01\n1: 01 = 1", 10)
        self.refused("0: 0 = 02 = 01\n1: 1 > 01\n2: 2 > 02", 0)
        self.refused("0: 0 > 012 = 02\n1: 1 > 012\n2: 2 > 02 = 012", 0)
        self.refused("0: 012 = 02 > 0\n1: 1 > 012\n2: 2 > 02 = 012", 0)
        self.assertEqual(len(read_wishes("0: 0 > 02 = 012\n1: 1 > 012\n2: 2 > 02 = 012").collection), 5)

    def test_the_member_alone(self):
        self.refused("0: 01\n1: 1 > 01", 0)
        self.refused("0: 01 > 0\n1: 01", 10)
        self.refused("0: 0\n1: 12 > 123\n2: 2\n3: 3", 5)

    def test_earlier_lines(self):
        self.refused("0: 0\n1: 1 > 01", 5)
        self.refused("0: 0 > 01\n1: 1", 10)
        self.refused("0: 0 > 012\n1: 1 > 012\n2: 2", 22)
        self.refused("0: 0 > 012\n1: 1\n2: 2 > 012", 11)
        self.refused("0: 0\n1: 1 > 12\n2: 2 > 02 > 12", 15)
        self.refused("0: 0\n1: 1\n2: 2 > 012", 10)
        self.refused("0: 0\n1: 1 > 12\n2: 2 > 12 > 012", 15)
        self.refused("0: 0 > 012\n1: 1 > 012 > 12\n2: 2 > 012", 27)

    def test_more_than_24_groups(self):
        chance = random.Random(7)
        more = sorted((group for group in all_groups(6) if len(group) > 1), key=plain_key, reverse=True)
        for many, member in ((31, 0), (24, 0), (23, 0)):
            own = [group for group in all_groups(6) if member in group][:many]
            text = text_of(6, sorted({(k,) for k in range(6)} | set(own)), False, chance)
            at = 0 if many > 24 else text.index("\n") + 1 if many > 23 else text.index("\n2: ") + 1
            self.refused(text, at)
        for seed in range(40):
            groups = [(k,) for k in range(6)] + random.Random(seed).sample(more, 18)
            self.assertEqual(len(read_wishes(text_of(6, groups, False, chance)).collection), 24)
            extra = random.Random(seed).choice([group for group in more if group not in groups])
            text = text_of(6, groups + [extra], seed % 2 == 0, chance)
            self.refused(text, first_wrong(text))
        groups = [(k,) for k in range(6)] + [group for group in more if 5 not in group][:18]
        text = text_of(6, groups + [(4, 5)], False, chance)
        self.refused(text, text.index("\n5: ") + 1)

    def test_figures_of_other_scripts(self):
        for figure in ("\u0660", "\u06f0", "\uff10", "\u00b2", "\u2460", "\u0966", "\U0001d7ce", "\u4e00", "\u00bd", "O"):
            self.refused(f"{figure}: 0", 0)
            self.refused(f"0: {figure}", 0)
            self.refused(f"0: 0{figure}", 0)
            self.refused(f"0: 0\n1: 1 > {figure}1", 5)
            self.refused(f"0: 0\n{figure}: 1", 5)
        self.refused("0: 0\n\uff11: 1", 5)
        self.refused("0: 0\n1: \u0661", 5)
        self.refused("0: 0\n1: 1 > 0\u0661", 5)

    def test_the_first_of_several_wrong_lines(self):
        self.refused("0: 0\nx\ny\n", 5)
        self.refused("0: 01 > 0\n1: 1 \n\n", 10)
        self.refused("0: 0\n1: 1\n2: \n3: 4\n5", 10)
        self.refused("x\n" + SIX, 0)

    def test_long_texts(self):
        self.refused("\n" * 4000, 0)
        self.refused("0" * 4000, 0)
        self.refused("0: " + "0 > " * 990 + "0", 0)
        self.refused("0: 0\n" + "1" * 3990, 5)
        self.refused("0: " + "0 = 01 " * 500, 0)

    def test_changed_texts(self):
        for seed in range(1200):
            chance = random.Random(seed)
            text = str(random_wishes(seed % 300))
            for _ in range(chance.randint(1, 2)):
                text = changed(text, chance)
            at = first_wrong(text)
            if at is None:
                self.assertEqual(str(read_wishes(text)), text)
            else:
                self.refused(text, at)


def changed(text, chance):
    """The text, changed at one place."""
    at = chance.randint(0, len(text))
    sign = chance.choice("0123456 >=:\n\t\uff10")
    lines = text.split("\n")
    line = chance.randrange(len(lines))
    words = lines[line].split(" ")
    word = chance.randrange(len(words))
    group = "".join(sorted(chance.sample("012345", chance.randint(1, 3))))
    return chance.choice([
        text[:at] + sign + text[at:], text[:at] + text[at + 1:], text[:at] + sign + text[at + 1:],
        "\n".join(lines[:line] + lines[line + 1:]), "\n".join(lines[:line] + [lines[line]] + lines[line:]),
        "\n".join(lines[:line] + lines[line + 1:] + [lines[line]]),
        "\n".join(lines[:line] + [" ".join(words[:word] + words[word + 2:])] + lines[line + 1:]),
        "\n".join(lines[:line] + [lines[line] + chance.choice([" > ", " = "]) + group] + lines[line + 1:]),
        "\n".join(lines[:line] + [" ".join(words[:2] + words[:0:-1])] + lines[line + 1:]),
    ])


if __name__ == "__main__":
    unittest.main()
