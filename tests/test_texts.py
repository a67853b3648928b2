"""[13] Texts and ranks, and what [1] says of them."""

import inspect
import itertools
import random
import re
import unittest

from shardmove import texts as module
from shardmove.clusters import Cluster
from shardmove.errors import BadCluster, BadPlacing, BadRank, BadSteps, BadText, TooLarge
from shardmove.placings import placings
from shardmove.texts import (cluster_text, placing_text, rank, read_cluster, read_placing, read_way, unrank,
                             way_text)
from tests.graphs import ALL_SPECS, edges, listed
from tests.helpers import (EMPTY_SPECS, JUST_INSIDE, JUST_OUTSIDE, WIDEST, Case, LooksLikeACluster, allowed, make,
                           odd_values, search_after, spoiled)

SPEC = ((3, 2), (2, 1, 1), (0, 1), 2, 1, False)
TEXT = "rooms 3 2\nsizes 2 1 1\nzones 0 1\nfar 2\nalive 1\napart no\n"
LINES = TEXT.splitlines()
ROW = ((3, 2), (2, 1), (0, 1), 2, 1, False)
PLACING = ((0,), (0,))
WAY = (("copy", 0, 0, 1), ("drop", 0, 0), ("copy", 1, 0, 1))
# The last step is not possible in this cluster.
ROOMY = ((3, 3), (2, 1), (0, 1), 2, 1, False)
WAY_TEXT = "copy 0 0 1\ndrop 0 0\ncopy 1 0 1\n"
# What a text is changed with at each of its places.
SIGNS = ["", " ", "\n", "\r", "\t", "0", "1", "2", "4", "7", "9", "-", "+", ",", "_", ".", "a", "no", "yes", "\u0661",
         "\u00b2", "\u00a0", "\x00", "\x0b", "\x1c", "\u2028", "\ufeff"]
FORMS = ["rooms( [1-6]){2,4}", "sizes( [1-3]){1,4}", None, "far [1-3]", "alive [12]", "apart (yes|no)"]


def changed(text):
    """Return texts in which each character is left out, replaced or doubled, or something stands before it."""
    found = []
    for at in range(len(text) + 1):
        for sign in SIGNS:
            found.append(text[:at] + sign + text[at:])
            found.append(text[:at] + sign + text[at + 1:])
    return found + [text + text, text.upper(), text.strip(), text[::-1], text.replace("\n", "\r\n"), "\n" + text]


def judged_lines(text, is_right):
    """Return the row of the error, None if there is none, with a function that judges a line by those before it."""
    *lines, rest = text.split("\n")
    for row in range(len(lines)):
        if not is_right(lines[:row], lines[row]):
            return row
    return len(lines) if rest else None


def cluster_row(text):
    """Return the row of the error for the text of a cluster, None if there is none."""
    def is_right(before, line):
        if len(before) >= 6:
            return False
        form = FORMS[len(before)]
        if form is None:
            form = "zones( [0-3]){" + str(before[0].count(" ")) + "}"
        return re.fullmatch(form, line, re.ASCII) is not None
    row = judged_lines(text, is_right)
    return text.count("\n") if row is None and text.count("\n") < 6 else row


def way_row(spec, placing, text):
    """Return the row of the error for the text of a way, None if there is none."""
    places = [placing]

    def is_right(_, line):
        if re.fullmatch("copy( [0-9]){3}|drop( [0-9]){2}", line, re.ASCII) is None:
            return False
        word, *digits = line.split(" ")
        step = (word, *map(int, digits))
        if step[1] >= len(spec[1]) or any(machine >= len(spec[0]) for machine in step[2:]):
            return False
        places.append(search_after(spec, places[-1], step))
        return places[-1] is not None
    return judged_lines(text, is_right)


def is_placing_text(spec, text):
    """Say whether a text is the one of a placing."""
    if re.fullmatch("[0-9](,[0-9])*( [0-9](,[0-9])*)*", text, re.ASCII) is None:
        return False
    value = tuple(tuple(map(int, word.split(","))) for word in text.split(" "))
    if len(value) != len(spec[1]) or any(machine >= len(spec[0]) for machines in value for machine in machines):
        return False
    return allowed(spec, value)


def written(spec):
    """Return the text of a cluster."""
    rooms, sizes, zones, far, alive, apart = spec
    rows = [("rooms", *rooms), ("sizes", *sizes), ("zones", *zones), ("far", far), ("alive", alive)]
    return "".join(" ".join(map(str, row)) + "\n" for row in rows) + ("apart yes\n" if apart else "apart no\n")


class ClusterTextTest(Case):

    def refused_at(self, row, text):
        self.assertEqual(self.refused(BadText, read_cluster, text).row, row)

    def test_all_there_and_back(self):
        for spec in ALL_SPECS + EMPTY_SPECS + [WIDEST, JUST_INSIDE, JUST_OUTSIDE]:
            text = cluster_text(make(spec))
            self.assertEqual(text, written(spec))
            self.assertIs(text.__class__, str)
            found = read_cluster(text)
            self.assertIs(found.__class__, Cluster)
            self.assertEqual(found, make(spec))
            self.assertIs(found.apart, spec[5])
            self.assertEqual(cluster_text(found), text)

    def test_as_in_the_document(self):
        self.assertEqual(cluster_text(make(SPEC)), TEXT)
        self.assertEqual(read_cluster(TEXT), make(SPEC))
        self.assertEqual(cluster_text(Cluster((6, 5, 4, 3), (3,), far=3, alive=2, apart=True)),
                         "rooms 6 5 4 3\nsizes 3\nzones 0 0 0 0\nfar 3\nalive 2\napart yes\n")

    def test_all_lines_of_each_form(self):
        for at, (name, most, extent) in enumerate((("rooms", 4, 7), ("sizes", 4, 5), ("zones", 4, 5), ("far", 1, 10),
                                                   ("alive", 1, 10))):
            for many in range(most + 2):
                for numbers in itertools.product(range(extent), repeat=many):
                    if many > 3 and numbers[0] != numbers[2]:
                        continue
                    line = " ".join([name, *map(str, numbers)])
                    # As many zones as there are rooms.
                    text = "\n".join([*LINES[:at], line, *LINES[at + 1:]]) + "\n"
                    self.check(text)

    def check(self, text):
        row = cluster_row(text)
        if row is None:
            self.assertEqual(cluster_text(read_cluster(text)), text)
        else:
            self.refused_at(row, text)

    def test_changed_texts(self):
        rows = set()
        for text in changed(TEXT) + changed(written(ALL_SPECS[9])):
            self.check(text)
            rows.add(cluster_row(text))
        self.assertEqual(rows, {None, 0, 1, 2, 3, 4, 5, 6})

    def test_lines_moved(self):
        for lines in itertools.permutations(LINES):
            self.check("\n".join(lines) + "\n")
        for many in range(8):
            self.check("".join(line + "\n" for line in (LINES + ["apart no", "apart no"])[:many]))
        for at in range(6):
            self.check("".join(line + "\n" for line in LINES[:at] + LINES[at + 1:]))
            self.check("".join(line + "\n" for line in LINES[:at] + [LINES[at]] + LINES[at:]))

    def test_the_rows_of_errors(self):
        self.refused_at(0, "")
        self.refused_at(0, "\n")
        self.refused_at(0, "rooms 3 2")
        self.refused_at(1, "rooms 3 2\n")
        self.refused_at(1, "rooms 3 2\n\n")
        self.refused_at(1, "rooms 3 2\nsizes 2 1 1")
        self.refused_at(5, TEXT[:-1])
        self.refused_at(5, TEXT[:-2])
        self.refused_at(5, TEXT[:TEXT.index("apart")])
        self.refused_at(6, TEXT + "\n")
        self.refused_at(6, TEXT + " ")
        self.refused_at(6, TEXT + "\nx")
        self.refused_at(6, TEXT + "apart no\n")
        self.refused_at(6, TEXT + "apart no\n\n\n")
        self.refused_at(6, TEXT + TEXT)

    def test_a_line_is_judged_by_those_before_it(self):
        # The zones have one for each room; the rooms before them are taken as right.
        self.refused_at(2, TEXT.replace("zones 0 1", "zones 0"))
        self.refused_at(2, TEXT.replace("zones 0 1", "zones 0 1 2"))
        self.refused_at(2, TEXT.replace("rooms 3 2", "rooms 3 2 2"))
        self.refused_at(2, TEXT.replace("rooms 3 2", "rooms 3 2 2").replace("apart no", "apart"))
        self.refused_at(0, TEXT.replace("rooms 3 2", "rooms 3").replace("zones 0 1", "zones 0"))
        self.refused_at(0, TEXT.replace("rooms 3 2", "rooms 7 2").replace("sizes 2", "sizes 0"))
        self.refused_at(3, TEXT.replace("far 2", "far 4").replace("alive 1", "alive 3"))
        # The first line that is wrong comes before missing ones, and before what follows the last line feed.
        self.refused_at(0, "rooms 3\nsizes")
        self.refused_at(1, "rooms 3 2\nsizes 4\nzones 0 1\n")
        self.refused_at(4, TEXT.replace("alive 1", "alive") + "x")

    def test_characters_that_look_like_others(self):
        for sign in ("\u0663", "\u00b3", "\uff13", "\u2462", "03", "3.", "+3", "-3", "3e", "0x3", "", "three"):
            self.refused_at(0, TEXT.replace("rooms 3", "rooms " + sign))
        for line in ("apart  no", "apart No", "apart NO", "apart True", "apart no ", " apart no", "apart yes no", "apart",
                     "apart ", "apart 0", "apart\tno", "apart n\u043e", "apartno", "apart no\x0b", "apart yes yes"):
            self.refused_at(5, TEXT.replace("apart no", line))
        for space in ("  ", "\t", "\u00a0", "\u2003", ",", "\x1c", "\x85", ""):
            self.refused_at(1, TEXT.replace("sizes 2 1 1", "sizes 2" + space + "1 1"))
        for end in ("\r\n", "\r", "\x0b", "\x0c", "\u2028", "\x85", " \n"):
            self.refused_at(0, TEXT.replace("\n", end))

    def test_what_is_no_string(self):
        for value in [*odd_values(), TEXT.encode(), [TEXT], LINES, (TEXT,), make(SPEC)]:
            if not isinstance(value, str):
                self.refused_at(0, value)

    def test_long_texts(self):
        for text in ("x" * 10 ** 6, " " * 10 ** 6, "rooms" + " 3" * 10 ** 5 + "\n", "\n" * 10 ** 5, "rooms 3 2 " * 10 ** 5):
            self.refused_at(0, text)
        self.refused_at(6, TEXT * 10 ** 4)
        self.refused_at(1, "rooms 3 2\nsizes" + " 1" * 10 ** 5 + "\n")

    def test_what_is_no_cluster(self):
        for value in [*odd_values(), Cluster, SPEC, LooksLikeACluster(), TEXT]:
            self.assertIsNone(self.refused(BadCluster, cluster_text, value).part)


class PlacingTextTest(Case):

    def test_all_there_and_back(self):
        for spec in ALL_SPECS:
            cluster, every = make(spec), listed(spec)
            for placing in every[::len(every) // 60 + 1]:
                text = placing_text(cluster, placing)
                self.assertEqual(text, " ".join(",".join(map(str, machines)) for machines in placing))
                self.assertEqual(read_placing(cluster, text), placing)

    def test_as_in_the_document(self):
        cluster = Cluster((3, 2, 3), (2, 1))
        self.assertEqual(placing_text(cluster, ((0, 2), (1,))), "0,2 1")
        self.assertEqual(read_placing(cluster, "0,2 1"), ((0, 2), (1,)))
        self.assertEqual(placing_text(Cluster((3, 2), (2,)), ((1,),)), "1")

    def test_kinds(self):
        found = read_placing(make(ROW), "0,1 0")
        self.assertEqual([found.__class__, found[0].__class__, found[0][1].__class__], [tuple, tuple, int])

    def test_all_short_texts(self):
        right = 0
        for spec in (ROW, ((2, 2), (1,), (0, 0), 1, 2, False), ((3, 3), (1, 1), (0, 0), 1, 1, True)):
            for many in range(6):
                for signs in itertools.product("01,2 ", repeat=many):
                    text = "".join(signs)
                    if is_placing_text(spec, text):
                        right += 1
                        self.assertEqual(placing_text(make(spec), read_placing(make(spec), text)), text)
                    else:
                        self.assertEqual(self.refused(BadText, read_placing, make(spec), text).row, 0)
        self.assertGreater(right, 8)

    def test_changed_texts(self):
        for spec in (ALL_SPECS[0], ALL_SPECS[5], ALL_SPECS[13]):
            for placing in listed(spec)[::37]:
                for text in changed(placing_text(make(spec), placing)):
                    if is_placing_text(spec, text):
                        self.assertEqual(placing_text(make(spec), read_placing(make(spec), text)), text)
                    else:
                        self.assertEqual(self.refused(BadText, read_placing, make(spec), text).row, 0)

    def test_what_is_not_written_in_this_way(self):
        for text in ("", " ", "0", "0 0 0", "0  0", " 0 0", "0 0 ", "0 0\n", "0,0 0", "1,0 0", "0, 1 0", ",0 0", "0, 0",
                     "0,,1 0", "2 0", "0 2", "00 0", "-1 0", "+0 0", "0\t0", "0\n0", "(0,) (0,)", "0;1 0", "\u0660 0",
                     "0 \u00b2", "0,1 0,1 ", "a 0", "0\r0", "1 1", "0 0" * 10 ** 5, "0," * 10 ** 5, " " * 10 ** 5):
            self.assertEqual(self.refused(BadText, read_placing, make(ROW), text).row, 0)

    def test_wrong_arguments(self):
        for value in [*odd_values(), Cluster, ROW, LooksLikeACluster(), "0 0"]:
            for text in ("0 0", None, ""):
                self.assertIsNone(self.refused(BadCluster, read_placing, value, text).part)
            for placing in (PLACING, None):
                self.assertIsNone(self.refused(BadCluster, placing_text, value, placing).part)
        for value in [*odd_values(), PLACING, b"0 0", ["0 0"], ["0", "0"]]:
            if not isinstance(value, str):
                self.assertEqual(self.refused(BadText, read_placing, make(ROW), value).row, 0)
        for value in spoiled(PLACING) + [((2,), (0,)), ((0,),), [(0,), (0,)], ((0,), (1, 0)), "0 0"]:
            self.refused(BadPlacing, placing_text, make(ROW), value)
        for spec in EMPTY_SPECS:
            for text in ("0 0", "0", "0,1", "0,1,2"):
                self.assertEqual(self.refused(BadText, read_placing, make(spec), text).row, 0)

    def test_no_limit(self):
        for placing in (((0,),) * 4, ((0, 1, 2, 3),) * 4):
            self.assertEqual(read_placing(make(WIDEST), placing_text(make(WIDEST), placing)), placing)


class WayTextTest(Case):

    def refused_at(self, row, spec, placing, text):
        self.assertEqual(self.refused(BadText, read_way, make(spec), placing, text).row, row, spec)

    def check(self, spec, placing, text):
        row = way_row(spec, placing, text)
        if row is None:
            self.assertEqual(way_text(make(spec), placing, read_way(make(spec), placing, text)), text)
        else:
            self.refused_at(row, spec, placing, text)
        return row

    def test_all_there_and_back(self):
        for spec in ALL_SPECS:
            rng = random.Random(3)
            for _ in range(5):
                placing = here = rng.choice(listed(spec))
                way = []
                for _ in range(rng.randint(0, 9)):
                    if edges(spec, here):
                        step, here, _ = rng.choice(edges(spec, here))
                        way.append(step)
                text = way_text(make(spec), placing, way)
                self.assertEqual(text, "".join(" ".join(map(str, step)) + "\n" for step in way))
                self.assertEqual(way_text(make(spec), placing, tuple(way)), text)
                self.assertEqual(read_way(make(spec), placing, text), tuple(way))

    def test_as_in_the_document(self):
        self.assertEqual(way_text(make(ROOMY), PLACING, WAY), WAY_TEXT)
        found = read_way(make(ROOMY), PLACING, WAY_TEXT)
        self.assertEqual(found, WAY)
        self.assertEqual([found.__class__, found[0].__class__, found[0][1].__class__], [tuple, tuple, int])
        cluster = Cluster((6, 6, 6), (1, 1, 1))
        self.assertEqual(read_way(cluster, ((0, 1), (1,), (1,)), "copy 0 1 2\ndrop 0 1\n"),
                         (("copy", 0, 1, 2), ("drop", 0, 1)))

    def test_no_steps(self):
        for spec in ALL_SPECS:
            self.assertEqual(read_way(make(spec), listed(spec)[0], ""), ())
            for way in ((), []):
                self.assertEqual(way_text(make(spec), listed(spec)[0], way), "")

    def test_changed_texts(self):
        rows = {self.check(ROOMY, PLACING, text) for text in changed(WAY_TEXT)}
        self.assertEqual(rows, {None, 0, 1, 2, 3})

    def test_all_lines_of_each_form(self):
        for spec, placing in ((ROOMY, PLACING), (ALL_SPECS[5], listed(ALL_SPECS[5])[5])):
            for word, many in itertools.product(("copy", "drop", "move", "Copy", ""), range(5)):
                for digits in itertools.product("0123", repeat=many):
                    self.check(spec, placing, " ".join([word, *digits]) + "\n")

    def test_the_rows_of_errors(self):
        for text, row in (("x", 0), ("\n", 0), (" ", 0), ("copy 0 0 1", 0), ("copy 0 0 1\n ", 1), ("copy 0 0 1\n\n", 1),
                          ("copy 0 0 1\ncopy 0 0 1\n", 1), ("drop 0 0\n", 0), ("copy 0 0 1\ndrop 0 0", 1),
                          ("copy 0 0 1\nx\ndrop 0 0\n", 1), (WAY_TEXT + "drop 1 1", 3), (WAY_TEXT + "\n", 3),
                          (WAY_TEXT + "drop 0 0\n", 3), (WAY_TEXT + "drop 1 0\nx", 4), (WAY_TEXT[:-1], 2),
                          ("copy 0 1 0\ndrop 0 0 0", 0), ("copy 0 0 1\r\n", 0), ("copy 0  0 1\n", 0),
                          ("copy 0 0 1 \n", 0), (" copy 0 0 1\n", 0), ("copy 0 0 01\n", 0), ("copy 0 0 +1\n", 0),
                          ("copy 0 0\n", 0), ("drop 0 0 1\n", 0), ("copy 0 0 1 0\n", 0), ("copy\t0 0 1\n", 0),
                          ("copy 0 0 \u0661\n", 0), ("copy 0,0,1\n", 0), ("copy 2 0 1\n", 0), ("copy 0 0 2\n", 0),
                          ("COPY 0 0 1\n", 0), ("copy 0 0 1\u2028drop 0 0\n", 0), ("copy 0 0 9\n", 0)):
            self.refused_at(row, ROOMY, PLACING, text)
            self.assertEqual(way_row(ROOMY, PLACING, text), row)

    def test_a_step_that_is_not_possible_after_the_others(self):
        # In the narrower cluster, the second shard does not fit beside the first one.
        self.refused_at(2, ROW, PLACING, WAY_TEXT)
        self.refused_at(2, ROW, PLACING, WAY_TEXT + "x")
        self.refused_at(0, ROOMY, ((1,), (1,)), WAY_TEXT)

    def test_what_is_no_string(self):
        for value in [*odd_values(), WAY, list(WAY), WAY_TEXT.encode(), [WAY_TEXT]]:
            if not isinstance(value, str):
                self.refused_at(0, ROOMY, PLACING, value)

    def test_long_texts(self):
        text = "copy 0 0 1\ndrop 0 1\n" * 3000
        self.assertEqual(len(read_way(make(ROOMY), PLACING, text)), 6000)
        self.assertEqual(way_text(make(ROOMY), PLACING, read_way(make(ROOMY), PLACING, text)), text)
        self.refused_at(6000, ROOMY, PLACING, text + "copy 0 0 1")
        self.refused_at(0, ROOMY, PLACING, "copy" + " 0" * 10 ** 5 + "\n")

    def test_wrong_arguments(self):
        for value in [*odd_values(), Cluster, ROW, LooksLikeACluster()]:
            for placing, last in itertools.product((PLACING, None), (WAY, WAY_TEXT, None)):
                for function in (way_text, read_way):
                    self.assertIsNone(self.refused(BadCluster, function, value, placing, last).part)
        for value in spoiled(PLACING) + [((2,), (0,)), ((0,),), [(0,), (0,)], ((0,), (1, 0))]:
            for last in (WAY, WAY_TEXT, None, [None], "x"):
                for function in (way_text, read_way):
                    self.refused(BadPlacing, function, make(ROOMY), value, last)

    def test_ways_that_cannot_be_written(self):
        for value in [*odd_values(), WAY_TEXT, iter(WAY), {WAY[0]: 1}]:
            if not isinstance(value, (list, tuple)):
                self.assertIsNone(self.refused(BadSteps, way_text, make(ROOMY), PLACING, value).index)
        for value in spoiled(WAY[1]) + [WAY[0], ["drop", 0, 0], "drop 0 0", ("drop", 1, 1)]:
            for way in ([WAY[0], value], (WAY[0], value, None)):
                self.assertEqual(self.refused(BadSteps, way_text, make(ROOMY), PLACING, way).index, 1)


class RankTest(Case):

    def test_all_ranks(self):
        for spec in ALL_SPECS:
            cluster, every = make(spec), listed(spec)
            found = [unrank(cluster, number) for number in range(0, len(every), len(every) // 40 + 1)]
            self.assertEqual(found, list(every[::len(every) // 40 + 1]))
            for number, placing in enumerate(every):
                if number % (len(every) // 40 + 1) == 0 or number == len(every) - 1:
                    self.assertEqual(rank(cluster, placing), number)
            self.assertEqual((unrank(cluster, len(every) - 1), rank(cluster, every[0])), (every[-1], 0))

    def test_kinds(self):
        self.assertIs(rank(make(ROW), PLACING).__class__, int)
        self.assertIs(unrank(make(ROW), 0).__class__, tuple)

    def test_what_is_no_rank(self):
        for spec in (ROW, ALL_SPECS[6], ALL_SPECS[9], *EMPTY_SPECS):
            many = len(listed(spec))
            for value in [*odd_values(), many, many + 1, -1, -many, True, False, (0,), "0", [0]]:
                if value.__class__ is int and 0 <= value < many:
                    self.assertEqual(unrank(make(spec), value), listed(spec)[value])
                else:
                    self.refused(BadRank, unrank, make(spec), value)
        for spec in EMPTY_SPECS:
            self.refused(BadRank, unrank, make(spec), 0)

    def test_limits(self):
        inside, outside = make(JUST_INSIDE), make(JUST_OUTSIDE)
        every = placings(inside)
        self.assertEqual((rank(inside, every[-1]), unrank(inside, 1999), rank(inside, every[7])), (1999, every[-1], 7))
        self.refused(BadRank, unrank, inside, 2000)
        for number in (0, 1999, 2000, 2001, -1, None, True, "0"):
            self.refused(TooLarge, unrank, outside, number)
            self.refused(TooLarge, unrank, make(WIDEST), number)
        self.refused(TooLarge, rank, outside, listed(JUST_OUTSIDE)[0])
        self.refused(TooLarge, rank, outside, listed(JUST_OUTSIDE)[-1])
        self.refused(TooLarge, rank, make(WIDEST), ((0,),) * 4)

    def test_wrong_arguments(self):
        for value in [*odd_values(), Cluster, ROW, LooksLikeACluster()]:
            for last in (PLACING, 0, None, True):
                self.assertIsNone(self.refused(BadCluster, rank, value, last).part)
                self.assertIsNone(self.refused(BadCluster, unrank, value, last).part)
        for value in spoiled(PLACING) + [((2,), (0,)), ((0,),), [(0,), (0,)], ((0,), (1, 0)), 0]:
            self.refused(BadPlacing, rank, make(ROW), value)
        for value in (None, 0, ((0,),) * 3, [(0,)] * 4):
            self.refused(BadPlacing, rank, make(WIDEST), value)


class InterfaceTest(Case):

    def test_interface(self):
        parameters = {"cluster_text": ["cluster"], "placing_text": ["cluster", "placing"],
                      "way_text": ["cluster", "placing", "way"], "read_cluster": ["text"],
                      "read_placing": ["cluster", "text"], "read_way": ["cluster", "placing", "text"],
                      "rank": ["cluster", "placing"], "unrank": ["cluster", "number"]}
        values = {"cluster": make(ROOMY), "placing": PLACING, "way": WAY, "number": 0}
        texts = {"read_cluster": TEXT, "read_placing": "0 0", "read_way": WAY_TEXT}
        for name, names in parameters.items():
            function = getattr(module, name)
            self.assertEqual(list(inspect.signature(function).parameters), names)
            self.assertEqual((function.__module__, function.__name__), ("shardmove.texts", name))
            arguments = {each: texts.get(name) if each == "text" else values[each] for each in names}
            self.assertEqual(function(**arguments), function(*arguments.values()))
        self.assertEqual(values, {"cluster": make(ROOMY), "placing": PLACING, "way": WAY, "number": 0})


if __name__ == "__main__":
    unittest.main()
