"""For each clause of points 18 and 19 a claim with its paper that is taken, and one that breaks this clause and isn't."""

import unittest

import grown
import tables
from kindlestair.checker import holds
from samples import odd_things

# By 2 nothing leads out of ("b",) but to c and back: a draws too much for what is left.
HEARTHS = (("a", (2,), ()), ("b", (1,), ("a",)), ("c", (1,), ("b",)), ("d", (1,), ("a",)))
START = (1, HEARTHS, (2,))
TABLE = (((0,), "", ()), ((0,), "b", ()), ((0,), "c", ()), ((1,), "", ()), ((1,), "b", ("c",)))

NEVER = ("never", *START, ("b", "c"), "d")
NEVER_PAPER = ((("out", "c"),), ("b",), TABLE)
STAYS = ("stays", *START, ("b", "c"), "b")
LEADS = ("leads", *START, ("b",), ("b", "c"))
LEADS_PAPER = (("kindle", "c"),)
BURNS = ("burns", *START, ("b",), "c")
GOES = ("goes", *START, ("b", "c"), "c")
GOES_PAPER = (("out", "c"),)
APART = ("apart", *START, ("b", "c"), ("a",))
APART_PAPER = ((("out", "c"),), ("b",), (("out", "a"),), (), TABLE)
# By 1 ("b",) is a standing, too, but nothing leads from () to it.
STEPS = grown.stair([(1,), (1,), (1,)])
LEAST = ("least", 1, STEPS, (2,), (), ("b",), 0)
LEAST_WAY = (("kindle", "a"), ("kindle", "b"), ("out", "a"))
LEAST_APART = ((), (), (), ("b",), (((0,), "", ()),))

ALL = (
    (NEVER, NEVER_PAPER), (STAYS, NEVER_PAPER), (LEADS, LEADS_PAPER), (BURNS, LEADS_PAPER), (GOES, GOES_PAPER),
    (APART, APART_PAPER), (LEAST, (LEAST_WAY, LEAST_APART)),
)


def put(row, at, thing):
    return row[:at] + (thing,) + row[at + 1:]


class Clauses(unittest.TestCase):
    def taken(self, claim, paper):
        self.assertIs(holds(claim, paper), True, (claim, paper))

    def broken(self, claim, paper):
        self.assertIs(holds(claim, paper), False, (claim, paper))


class Claims(Clauses):
    def test_all_are_taken(self):
        for claim, paper in ALL:
            self.taken(claim, paper)
            self.assertIs(holds(paper=paper, claim=claim), True)

    def test_a_claim_is_a_tuple(self):
        for claim, paper in ALL:
            self.broken(list(claim), paper)
            self.broken(dict(enumerate(claim)), paper)
            self.broken((claim,), paper)
            self.broken((), paper)
            self.broken(None, paper)

    def test_its_length(self):
        for claim, paper in ALL:
            for at in range(len(claim)):
                self.broken(claim[:at], paper)
                self.broken(claim[:at] + claim[at + 1:], paper)
            for more in (None, (), 0, "a"):
                self.broken(claim + (more,), paper)
        self.broken(LEADS + (0,), (LEADS_PAPER, None))
        self.broken(("least",) + LEADS[1:], (LEADS_PAPER, None))

    def test_its_word(self):
        for claim, paper in ALL:
            for word in odd_things() + ["", "lead", "leads ", "Leads", "holds", "leads\n", b"leads", ("leads",), 0, 1]:
                self.broken((word,) + claim[1:], paper)
        for claim, paper in ALL:
            for other, _ in ALL:
                if other[0] != claim[0]:
                    self.broken((other[0],) + claim[1:], paper)

    def test_stores(self):
        for claim, paper in ALL:
            for stores in (True, False, 0, 2, 3, 4, -1, "1", (1,), None, [1]):
                self.broken(put(claim, 1, stores), paper)

    def test_one_to_three_stores(self):
        for stores in range(6):
            hearths = (("a", (1,) * stores, ()),)
            claim = ("leads", stores, hearths, (1,) * stores, (), ("a",))
            self.assertIs(holds(claim, (("kindle", "a"),)), 1 <= stores <= 3)
            self.assertIs(holds(("leads", stores, (), (1,) * stores, (), ()), ()), 1 <= stores <= 3)

    def test_each_of_several_numbers_counts(self):
        row = (("kindle", "a"),)
        self.taken(("leads", 2, (("a", (1, 0), ()),), (1, 1), (), ("a",)), row)
        for hungers in ((1, True), (False, 1), (1, 10), (0, 0), (1, "1"), (1, -1)):
            self.broken(("leads", 2, (("a", hungers, ()),), (60, 60), (), ("a",)), row)
        for gives in ((1, True), (True, 1), (1, 61), (61, 1), (1, -1), (1, None), (0, 1)):
            self.broken(("leads", 2, (("a", (1, 0), ()),), gives, (), ("a",)), row)
        for hungers, gives in (((2, 1), (1, 1)), ((1, 2), (1, 1)), ((0, 2), (60, 1))):
            self.broken(("leads", 2, (("a", hungers, ()),), gives, (), ("a",)), row)

    def test_names_of_one_to_six_letters(self):
        for name in ("a", "z", "az", "abcdef", "zzzzzz"):
            self.taken(("leads", 1, ((name, (9,), ()),), (9,), (), (name,)), (("kindle", name),))
        for name in ("", "abcdefg", "a1", "A", "`", "{", "a b", " a"):
            self.broken(("leads", 1, ((name, (9,), ()),), (9,), (), (name,)), (("kindle", name),))

    def test_hearths(self):
        wrong = [
            list(HEARTHS), None, "", {}, HEARTHS[0], HEARTHS + (None,), HEARTHS + (HEARTHS[0],), HEARTHS + (("e", (1,)),),
            HEARTHS + (["e", (1,), ()],), HEARTHS + (("e", (1,), (), ()),), HEARTHS + (("E", (1,), ()),),
            HEARTHS + (("", (1,), ()),), HEARTHS + (("abcdefg", (1,), ()),), HEARTHS + (("e1", (1,), ()),),
            HEARTHS + (("e", [1], ()),), HEARTHS + (("e", (0,), ()),), HEARTHS + (("e", (10,), ()),),
            HEARTHS + (("e", (True,), ()),), HEARTHS + (("e", (1, 1), ()),), HEARTHS + (("e", (), ()),),
            HEARTHS + (("e", (-1,), ()),), HEARTHS + (("e", ("1",), ()),), HEARTHS + (("e", 1, ()),),
            HEARTHS + (("e", (1,), ["a"]),), HEARTHS + (("e", (1,), "a"),), HEARTHS + (("e", (1,), ("e",)),),
            HEARTHS + (("e", (1,), ("f",)), ("f", (1,), ())), HEARTHS + (("e", (1,), ("a", "a")),),
            HEARTHS + (("e", (1,), (None,)),), HEARTHS + (("e", (1,), (["a"],)),), HEARTHS + (("e", (1,), None),),
            HEARTHS + ((["e"], (1,), ()),), HEARTHS + ((None, (1,), ()),), tuple(reversed(HEARTHS)),
        ]
        for claim, paper in ((LEADS, LEADS_PAPER), (BURNS, LEADS_PAPER), (GOES, GOES_PAPER)):
            self.taken(put(claim, 2, HEARTHS + (("e", (1,), ("a", "d")),)), paper)
            for hearths in wrong:
                self.broken(put(claim, 2, hearths), paper)

    def test_sixteen_hearths_and_seventeen(self):
        more = tuple([(letter, (1,), ("a",)) for letter in "efghijklmnopq"])
        self.taken(put(LEADS, 2, HEARTHS + more[:12]), LEADS_PAPER)
        self.broken(put(LEADS, 2, HEARTHS + more), LEADS_PAPER)

    def test_gives(self):
        for claim, paper in ALL:
            for gives in ([2], (True,), (2, 2), (), 2, ("2",), (-1,), (61,), ((2,),), None, {0: 2}):
                self.broken(put(claim, 3, gives), paper)
        self.taken(put(LEADS, 3, (60,)), LEADS_PAPER)
        self.broken(put(LEADS, 3, (61,)), LEADS_PAPER)

    def test_one_is_a_standing(self):
        for claim, paper in ALL:
            for one in (list(claim[4]), None, "b", ("c", "b"), ("b", "b"), ("b", "x"), (None,), (["b"],), {}, ("",)):
                self.broken(put(claim, 4, one), paper)
        # Each of these draws too much, though nothing is done with it.
        self.broken(("leads", *START, ("a", "b"), ("a", "b")), ())
        self.broken(("burns", *START, ("a", "b"), "a"), ())
        self.broken(("goes", *START, ("a", "b"), "c"), ())
        self.taken(("leads", *START, ("b", "c"), ("b", "c")), ())

    def test_names_are_the_web_s(self):
        for claim, paper in ALL:
            if claim[0] in ("never", "stays", "burns", "goes"):
                for name in odd_things() + ["x", "", "e", ("b",), ["b"], b"b", 0]:
                    self.broken(put(claim, 5, name), paper)


class Rows(Clauses):
    """Rows of leads, burns, goes and least, and those within other papers."""

    def everywhere(self, row, standing, end):
        """A wrong row from a standing to an end: as a paper of its own and within others."""
        self.broken(("leads", *START, standing, end), row)
        for name in "abcd":
            self.broken(("burns", *START, standing, name), row)
            self.broken(("goes", *START, standing, name), row)
        self.broken(("stays", *START, standing, "b"), (row, end, TABLE))
        self.broken(("never", *START, standing, "d"), (row, end, TABLE))
        self.broken(("apart", *START, standing, ()), (row, end, (), (), TABLE))
        self.broken(("apart", *START, (), standing), ((), (), row, end, TABLE))
        self.broken(("least", *START, standing, end, 0), (row, None))

    def test_right_ones(self):
        self.taken(("leads", *START, ("b", "c"), ("b",)), (("out", "c"),))
        self.taken(("stays", *START, ("b", "c"), "b"), ((("out", "c"),), ("b",), TABLE))
        self.taken(("apart", *START, ("b", "c"), ()), ((("out", "c"),), ("b",), (), (), TABLE))
        self.taken(("apart", *START, (), ("b", "c")), ((), (), (("out", "c"),), ("b",), TABLE))
        self.taken(("least", *START, ("b", "c"), ("b",), 0), ((("out", "c"),), None))

    def test_what_is_no_row_of_switches(self):
        for row in ([("out", "c")], (["out", "c"],), ("out", "c"), (("out", "c", "c"),), (("out",),), (("Out", "c"),),
                    (("gust", "c"),), (("out", "x"),), (("out", ["c"]),), ((None, "c"),), (("out", None),), "out", None,
                    {}, ((("out", "c"),),), (("out", "c"), None), (None, ("out", "c")), (("c", "out"),), 0, True):
            self.everywhere(row, ("b", "c"), ("b",))

    def test_what_can_t_be_done(self):
        for row in (
                (("kindle", "c"), ("out", "c")), (("out", "d"), ("out", "c")), (("out", "c"), ("out", "c")),
                (("out", "b"), ("out", "c")), (("out", "c"), ("kindle", "d"), ("out", "d")),
                (("out", "c"), ("kindle", "a"), ("out", "a")), (("out", "c"), ("kindle", "b")),
        ):
            self.everywhere(row, ("b", "c"), ("b",))

    def test_words_of_switches(self):
        for word in ("kindle ", "Kindle", "", "gust", "spark", "kindled"):
            self.broken(LEADS, ((word, "c"),))
        for word in ("out ", "Out", "", "gust"):
            self.broken(GOES, ((word, "c"),))

    def test_kindled_ahead_of_others(self):
        self.taken(("leads", 1, STEPS, (2,), ("b",), ("a", "b")), (("kindle", "a"),))
        self.taken(("leads", 1, STEPS, (2,), ("b",), ()), (("kindle", "a"), ("out", "b"), ("out", "a")))

    def test_one_of_several_feeders_is_enough(self):
        hearths = (("a", (1,), ()), ("b", (1,), ()), ("c", (1,), ("a", "b")))
        for name in ("a", "b"):
            self.taken(("burns", 1, hearths, (2,), (name,), "c"), (("kindle", "c"),))
            self.taken(("goes", 1, hearths, (2,), (name, "c"), "c"), (("out", "c"),))
        self.broken(("burns", 1, hearths, (2,), (), "c"), (("kindle", "c"),))

    def test_a_row_that_ends_elsewhere(self):
        for row in ((), (("out", "c"), ("kindle", "c"))):
            self.taken(("leads", *START, ("b", "c"), ("b", "c")), row)
            self.broken(("leads", *START, ("b", "c"), ("b",)), row)
            self.broken(STAYS, (row, ("b",), TABLE))
            self.broken(NEVER, (row, ("b",), TABLE))
            self.broken(APART, (row, ("b",)) + APART_PAPER[2:])
            self.broken(("apart", *START, ("a",), ("b", "c")), ((("out", "a"),), (), row, ("b",), TABLE))
            self.broken(("burns", *START, ("b",), "c"), ())
            self.broken(("goes", *START, ("b", "c"), "c"), row)
        self.broken(LEAST, (LEAST_WAY[:-1], LEAST_APART))

    def test_what_is_no_end(self):
        for end in (["b"], ("b", "b"), None, "b", ("x",), {"b"}, (("b",),), ("b", None)):
            self.broken(("leads", *START, ("b", "c"), end), (("out", "c"),))
            self.broken(STAYS, ((("out", "c"),), end, TABLE))
            self.broken(NEVER, ((("out", "c"),), end, TABLE))
            self.broken(APART, put(APART_PAPER, 1, end))
            self.broken(APART, put(APART_PAPER, 3, end))

    def test_things_that_say_they_are_alike(self):
        for thing in odd_things():
            self.broken(("leads", *START, ("b", "c"), thing), (("out", "c"),))
            self.broken(("apart", *START, ("b", "c"), thing), APART_PAPER)
            self.broken(NEVER, put(NEVER_PAPER, 1, thing))


class Papers(Clauses):
    def test_a_paper_is_a_tuple_of_its_length(self):
        for claim, paper in ALL:
            self.broken(claim, list(paper))
            self.broken(claim, (paper,))
            if claim[0] in ("never", "stays", "apart", "least"):
                for at in range(len(paper)):
                    self.broken(claim, paper[:at])
                for more in ((), None, TABLE):
                    self.broken(claim, paper + (more,))

    def test_apart_has_other_as_a_standing(self):
        for other in (["a"], ("a", "b"), ("b", "a"), ("x",), None, "a", ("a", "a")):
            self.broken(put(APART, 5, other), APART_PAPER)
            self.broken(put(APART, 5, other), put(put(APART_PAPER, 2, ()), 3, other))

    def test_apart_has_unlike_rests(self):
        self.taken(("leads", *START, ("b", "c"), ("b",)), (("out", "c"),))
        self.broken(("apart", *START, ("b", "c"), ("b",)), ((("out", "c"),), ("b",), (), ("b",), TABLE))
        self.broken(("apart", *START, ("a",), ()), ((("out", "a"),), (), (), (), TABLE))

    def test_apart_has_both_as_rests(self):
        # ("b", "c") is none, as c stands over b; ("a",) is none, as it stands on the ground.
        self.broken(("apart", *START, ("b", "c"), ()), ((), ("b", "c"), (), (), TABLE))
        self.broken(("apart", *START, (), ("b", "c")), ((), (), (), ("b", "c"), TABLE))
        self.broken(("apart", *START, ("b",), ("a",)), ((), ("b",), (), ("a",), TABLE))
        self.broken(("apart", *START, ("a",), ("b",)), ((), ("a",), (), ("b",), TABLE))

    def test_never_is_of_what_is_not_of_the_rest(self):
        self.broken(put(NEVER, 5, "b"), NEVER_PAPER)

    def test_never_is_of_what_is_not_reached_by_the_table(self):
        self.broken(put(NEVER, 5, "c"), NEVER_PAPER)
        self.taken(put(NEVER, 5, "a"), NEVER_PAPER)
        # This table tells more than is so of d: it holds, but shows nothing of d.
        more = TABLE[:4] + (((1,), "b", ("c", "d")),)
        self.broken(NEVER, put(NEVER_PAPER, 2, more))
        self.taken(put(NEVER, 5, "a"), put(NEVER_PAPER, 2, more))

    def test_never_asks_for_the_entries_of_the_whole_rest(self):
        # By this table ("b",) is a rest, but what is reached over b isn't told.
        fewer = (((0,), "", ()), ((1,), "", ()))
        self.taken(STAYS, put(NEVER_PAPER, 2, fewer))
        self.broken(NEVER, put(NEVER_PAPER, 2, fewer))
        # Over none it is the entry of the text without signs that is asked for.
        low = (1, STEPS, (1,), (), "b")
        self.broken(("never", *low), ((), (), ()))
        whole = tables.paper_rest(STEPS, (1,), ())
        self.assertIn(((1,), "", ("a",)), whole[2])
        self.taken(("never", *low), whole)
        self.broken(("never", *low[:4], "a"), whole)

    def test_stays_is_of_what_is_of_the_rest(self):
        for name in ("a", "c", "d"):
            self.broken(put(STAYS, 5, name), NEVER_PAPER)


class Least(Clauses):
    def test_a_paper_of_apart_by_one_less(self):
        self.taken(LEAST, (LEAST_WAY, LEAST_APART))
        self.taken(("apart", 1, STEPS, (1,), (), ("b",)), LEAST_APART)
        self.broken(LEAST, (LEAST_WAY, put(LEAST_APART, 4, ())))
        self.broken(LEAST, (LEAST_WAY, put(LEAST_APART, 3, ())))
        self.broken(LEAST, (LEAST_WAY, list(LEAST_APART)))
        # One of apart by what is given itself, or by two less, doesn't do.
        by_three = ("least", 1, STEPS, (3,), (), ("b",), 0)
        way = (("kindle", "a"), ("kindle", "b"), ("out", "a"))
        self.taken(("leads", 1, STEPS, (3,), (), ("b",)), way)
        self.broken(by_three, (way, LEAST_APART))

    def test_none_where_it_may_not_be(self):
        self.broken(LEAST, (LEAST_WAY, None))
        for thing in odd_things():
            self.broken(LEAST, (LEAST_WAY, thing))

    def test_none_where_one_of_both_is_no_standing_then(self):
        for one, other, row in (((), ("a",), (("kindle", "a"),)), (("a",), (), (("out", "a"),)), (("a",), ("a",), ())):
            claim = ("least", 1, STEPS, (1,), one, other, 0)
            self.taken(claim, (row, None))
            for thing in ((), LEAST_APART, False, 0, ((), one, (), other, ())):
                self.broken(claim, (row, thing))

    def test_a_paper_where_one_of_both_is_no_standing_then(self):
        # By 1 the row could be done, though it begins with what is no standing.
        claim = ("least", 1, STEPS, (2,), ("a", "b"), (), 0)
        way = (("out", "b"), ("out", "a"))
        self.taken(claim, (way, None))
        self.broken(claim, (way, ((("out", "a"),), ("b",), (), (), (((0,), "", ()),))))

    def test_a_store_that_gives_0(self):
        self.taken(("least", 1, STEPS, (0,), (), (), 0), ((), None))
        self.broken(("least", 1, STEPS, (0,), (), (), 0), ((), ((), (), (), (), ())))
        self.broken(("least", 1, STEPS, (1,), (), (), 0), ((), None))

    def test_the_store(self):
        hearths = (("a", (1, 0), ()), ("b", (0, 2), ("a",)))
        claim = ("least", 2, hearths, (1, 2), (), ("b",), 0)
        way = (("kindle", "a"), ("kindle", "b"), ("out", "a"))
        paper = tables.paper_least(hearths, (1, 2), (), ("b",), 0)
        self.assertIsNotNone(paper[1])
        self.taken(claim, paper)
        self.taken(put(claim, 6, 1), (way, None))
        self.broken(claim, (way, None))
        self.broken(put(claim, 6, 1), paper)
        for store in (2, -1, True, False, None, "0", (0,), 3, 10 ** 30, -2):
            self.broken(put(claim, 6, store), paper)
            self.broken(put(claim, 6, store), (way, None))

    def test_the_row(self):
        self.broken(LEAST, ((), LEAST_APART))
        self.broken(LEAST, (list(LEAST_WAY), LEAST_APART))
        # By one less they are apart, but by what is given, too.
        self.broken(("least", 1, STEPS, (2,), (), ("c",), 0), (LEAST_WAY, tables.paper_apart(STEPS, (1,), (), ("c",))))

    def test_other_is_a_standing(self):
        for other in (["b"], ("b", "b"), None, ("x",), "b"):
            self.broken(put(LEAST, 5, other), (LEAST_WAY, LEAST_APART))
            self.broken(put(LEAST, 5, other), (LEAST_WAY, None))


class TablesWritten(Clauses):
    """How a table is written."""

    def table(self, taken, table):
        check = self.taken if taken else self.broken
        check(STAYS, put(NEVER_PAPER, 2, table))
        check(NEVER, put(NEVER_PAPER, 2, table))
        check(APART, put(APART_PAPER, 4, table))

    def test_a_rising_tuple(self):
        self.table(True, TABLE)
        for table in (list(TABLE), {}, None, "", TABLE[::-1], TABLE[1:] + TABLE[:1], (TABLE[1], TABLE[0]) + TABLE[2:],
                      TABLE + TABLE[-1:], TABLE[:1] + TABLE, (TABLE,)):
            self.table(False, table)

    def test_entries_are_tuples_of_three(self):
        for at, entry in enumerate(TABLE):
            for thing in (list(entry), entry[:2], entry + ((),), None, "", (), (entry,), dict(enumerate(entry))):
                self.table(False, put(TABLE, at, thing))

    def test_no_two_alike_in_spare_and_over(self):
        self.table(False, TABLE[:4] + (((1,), "b", ("c",)), ((1,), "b", ("c", "d"))))
        self.table(False, TABLE[:1] + (((0,), "", ("a",)),) + TABLE[1:])

    def test_spare_is_as_gives(self):
        for spare in ([0], (False,), (0, 0), (), 0, ("0",), None, (-1,), ((0,),)):
            self.table(False, put(TABLE, 0, (spare,) + TABLE[0][1:]))
        for spare in ([1], (True,), (1, 0)):
            self.table(False, put(TABLE, 3, (spare,) + TABLE[3][1:]))
        # What is told by 61 holds, but is no entry.
        deep = tables.Table(HEARTHS)
        deep.names((60,), "d")
        deep.ask_rest((2,), ("b",))
        deep.names((1,), "b")
        self.table(True, deep.told())
        self.table(False, deep.told() + (((61,), "", ("a", "b", "c", "d")),))
        deep.names((61,), "d")
        self.table(False, deep.told())

    def test_over_is_a_name_or_the_text_without_signs(self):
        for over in ("x", "e", " ", None, ("b",), ["b"], b"b", 0, True, "bb"):
            self.table(False, TABLE + (((1,), over, ("c",)),))
            self.table(False, put(TABLE, 4, ((1,), over, ("c",))))
        self.table(True, TABLE[:3] + (((0,), "d", ()),) + TABLE[3:])
        for over in ("x", "dd", "~", "d "):
            self.table(False, TABLE[:3] + (((0,), over, ()),) + TABLE[3:])

    def test_names_are_a_rising_tuple_of_the_web_s_names(self):
        for names in (["c"], "c", None, ("c", "a"), ("c", "c"), ("c", "x"), ("c", None), (("c",),), {"c": 1}, ("", "c"),
                      ("c", ["d"])):
            self.table(False, put(TABLE, 4, ((1,), "b", names)))

    def test_over_is_not_of_its_own_names(self):
        self.table(False, put(TABLE, 4, ((1,), "b", ("b", "c"))))
        self.table(False, put(TABLE, 1, ((0,), "b", ("b",))))
        self.table(False, put(TABLE, 2, ((0,), "c", ("c",))))


# From ("b",) by 3: what is reached over b by 2 is c, d and e, where a draws too much.
HIGH = (("a", (9,), ()), ("b", (1,), ("a",)), ("c", (1,), ("b",)), ("d", (1,), ("c",)), ("e", (1,), ("d",)),
        ("f", (1,), ("e",)))
HIGH_CLAIM = ("never", 1, HIGH, (3,), ("b",), "f")


class TablesHold(Clauses):
    """What must hold of each entry."""

    def setUp(self):
        self.paper = tables.paper_rest(HIGH, (3,), ("b",))
        self.entries = {entry[:2]: entry[2] for entry in self.paper[2]}

    def told(self, entries):
        table = tuple(sorted([(spare, over, names) for (spare, over), names in entries.items()]))
        return put(self.paper, 2, table)

    def test_the_whole_table(self):
        self.assertEqual(self.entries[(2,), "b"], ("c", "d", "e"))
        self.taken(HIGH_CLAIM, self.told(self.entries))

    def test_each_entry_that_is_asked_for_must_be_there(self):
        for key in self.entries:
            fewer = {other: names for other, names in self.entries.items() if other != key}
            self.broken(HIGH_CLAIM, self.told(fewer))

    def test_no_name_too_few(self):
        tried = 0
        for key, names in self.entries.items():
            for out in names:
                fewer = {**self.entries, key: tuple([name for name in names if name != out])}
                self.broken(HIGH_CLAIM, self.told(fewer))
                tried += 1
        self.assertGreater(tried, 5)

    def test_one_that_stands_on_the_ground_is_of_names(self):
        claim = ("never", 1, STEPS, (1,), (), "c")
        way, left, table = tables.paper_rest(STEPS, (1,), ())
        self.taken(claim, (way, left, table))
        fewer = tuple([((1,), "", ()) if entry[:2] == ((1,), "") else entry for entry in table])
        self.assertNotEqual(fewer, table)
        self.broken(claim, (way, left, fewer))

    def test_one_that_stands_over_over_is_of_names(self):
        self.broken(HIGH_CLAIM, self.told({**self.entries, ((1,), "b"): ()}))

    def test_one_with_a_feeder_of_the_first_entry_s_names_is_of_names(self):
        # d is left alone over b by 2, as c is reached by 1.
        self.assertEqual(self.entries[(1,), "b"], ("c",))
        self.broken(HIGH_CLAIM, self.told({**self.entries, ((2,), "b"): ("c", "e")}))

    def test_the_names_of_the_second_entry_are_of_names(self):
        # e can't be left alone over b by 2: it is of the names of d's entry by 1 only.
        self.assertEqual(self.entries[(1,), "d"], ("e",))
        self.broken(HIGH_CLAIM, self.told({**self.entries, ((2,), "b"): ("c", "d")}))

    def test_over_itself_may_be_of_the_second_entry_s_names(self):
        table = tables.Table(STEPS)
        self.assertIn("a", table.names((1,), "b"))
        self.assertNotIn("a", table.names((2,), "a"))
        self.assertIn("b", table.names((2,), "a"))
        table.names((1,), "")
        self.taken(("never", 1, STEPS, (1,), (), "c"), ((), (), table.told()))

    def test_the_first_entry_must_be_there(self):
        # c stands neither on the ground nor over none: so its first entry is asked for, though it isn't reached.
        claim = ("stays", *START, ("b",), "b")
        self.taken(claim, ((), ("b",), (((0,), "", ()), ((1,), "", ()))))
        self.broken(claim, ((), ("b",), (((1,), "", ()),)))

    def test_the_second_entry_must_be_there(self):
        table = tuple([entry for entry in TABLE if entry[:2] != ((0,), "c")])
        self.assertEqual(len(table), len(TABLE) - 1)
        self.taken(NEVER, put(NEVER_PAPER, 2, TABLE))
        self.broken(NEVER, put(NEVER_PAPER, 2, table))

    def test_what_draws_more_than_spare_asks_for_nothing(self):
        self.taken(("stays", 1, HEARTHS, (1,), ("b",), "b"), ((), ("b",), (((0,), "", ()),)))

    def test_entries_that_are_not_asked_for_must_hold_too(self):
        self.taken(NEVER, put(NEVER_PAPER, 2, TABLE[:3] + (((0,), "d", ()),) + TABLE[3:]))
        self.broken(NEVER, put(NEVER_PAPER, 2, TABLE + (((2,), "d", ()),)))
        self.broken(NEVER, put(NEVER_PAPER, 2, TABLE + (((1,), "d", ()),)))
        self.broken(NEVER, put(NEVER_PAPER, 2, TABLE + (((2,), "d", ("a", "b", "c")),)))
        for claim, paper, at in ((STAYS, NEVER_PAPER, 2), (APART, APART_PAPER, 4)):
            self.broken(claim, put(paper, at, TABLE + (((1,), "d", ()),)))

    def test_a_table_may_tell_more_than_is_so(self):
        more = put(TABLE, 0, ((0,), "", ("c",)))
        # By this d and c are asked for over none by 1: c has no feeder told, so nothing more is asked.
        self.taken(NEVER, put(NEVER_PAPER, 2, more))


class RestsByTable(Clauses):
    def test_none_of_it_stands_on_the_ground(self):
        # Nothing is left by ("a",), so no entry tells that it could go.
        self.broken(("stays", *START, ("a",), "a"), ((), ("a",), TABLE))
        self.broken(("never", *START, ("a",), "d"), ((), ("a",), TABLE + (((2,), "a", ()),)))
        hearths = (("a", (2,), ()), ("b", (1,), ("a",)), ("e", (1,), ()))
        table = tables.Table(hearths)
        table.ask_rest((2,), ("b", "e"))
        self.broken(("stays", 1, hearths, (2,), ("b", "e"), "b"), ((), ("b", "e"), table.told()))

    def test_none_has_a_feeder_that_is_of_it(self):
        table = tables.Table(HEARTHS)
        table.ask_rest((2,), ("b", "c"))
        table.ask_over((0,), ("b", "c"))
        self.assertTrue(all([names == () for _, _, names in table.told()]))
        self.broken(("stays", *START, ("b", "c"), "b"), ((), ("b", "c"), table.told()))
        self.broken(("never", *START, ("b", "c"), "d"), ((), ("b", "c"), table.told()))

    def test_none_has_a_feeder_reached_over_the_others(self):
        # By 3 a is reached beside ("b",): so it is no rest, whatever else is told.
        table = tables.Table(HEARTHS)
        table.ask_rest((3,), ("b",))
        self.assertIn("a", table.names((2,), ""))
        self.broken(("stays", 1, HEARTHS, (3,), ("b",), "b"), ((), ("b",), table.told()))
        # e goes, as d is reached over b by what both leave.
        table = tables.Table(HIGH)
        table.ask_rest((4,), ("b", "e"))
        self.broken(("stays", 1, HIGH, (4,), ("b", "e"), "e"), ((), ("b", "e"), table.told()))
        self.broken(("stays", 1, HIGH, (4,), ("b", "e"), "b"), ((), ("b", "e"), table.told()))
        # By one less it isn't, and both stay.
        table = tables.Table(HIGH)
        table.ask_rest((3,), ("b", "e"))
        self.taken(("stays", 1, HIGH, (3,), ("b", "e"), "e"), ((), ("b", "e"), table.told()))

    def test_a_table_that_tells_too_much_makes_no_rest(self):
        table = (((0,), "", ("a",)), ((1,), "", ("a", "b", "d")))
        self.broken(("stays", *START, ("b",), "b"), ((), ("b",), table))

    def test_the_entries_of_each_other_one_must_be_there(self):
        table = tables.Table(HIGH)
        table.ask_rest((3,), ("b", "e"))
        told = table.told()
        claim = ("stays", 1, HIGH, (3,), ("b", "e"), "e")
        for at, (spare, over, _) in enumerate(told):
            if spare == (1,):
                self.assertIn(over, ("b", "e"))
                self.broken(claim, ((), ("b", "e"), told[:at] + told[at + 1:]))

    def test_the_entries_of_several_others_must_be_there(self):
        hearths = (("g", (9,), ()), ("a", (1,), ("g",)), ("b", (1,), ("g",)), ("c", (1,), ("g",)), ("d", (1,), ("a",)))
        three = ("a", "b", "c")
        claim = ("stays", 1, hearths, (3,), three, "b")
        table = tuple([((0,), over, ()) for over in three])
        self.taken(claim, ((), three, table))
        for at in range(3):
            self.broken(claim, ((), three, table[:at] + table[at + 1:]))
        for over in three:
            # As d is of it over one of them only, that one is told, too.
            more = tuple([((0,), name, ("d",) if name == over else ()) for name in three])
            self.taken(claim, ((), three, more))
            self.broken(("never", 1, hearths, (3,), three, "d"), ((), three, more))

    def test_one_of_several_feeders_of_it_or_reached_is_enough(self):
        for feeders in (("g", "h"), ("h", "g")):
            hearths = (("g", (9,), ()), ("h", (9,), ()), ("m", (1,), ("g",)), ("a", (1,), feeders))
            table = (((0,), "", ()),)
            self.taken(("stays", 1, hearths, (1,), ("a",), "a"), ((), ("a",), table))
            for name in ("g", "h"):
                self.broken(("stays", 1, hearths, (1,), ("a",), "a"), ((), ("a",), (((0,), "", (name,)),)))
        for feeders in (("g", "m"), ("m", "g")):
            hearths = (("g", (9,), ()), ("m", (1,), ("g",)), ("a", (1,), feeders))
            table = (((0,), "a", ()), ((0,), "m", ()))
            self.broken(("stays", 1, hearths, (2,), ("a", "m"), "m"), ((), ("a", "m"), table))

    def test_one_of_several_feeders_of_the_first_entry_is_enough(self):
        for feeders in (("a", "g"), ("g", "a")):
            hearths = (("g", (9,), ()), ("a", (1,), ()), ("b", (1,), feeders), ("c", (1,), ("b",)))
            claim = ("never", 1, hearths, (2,), (), "g")
            way, left, table = tables.paper_rest(hearths, (2,), ())
            self.assertEqual(table[-1], ((2,), "", ("a", "b", "c")))
            self.taken(claim, (way, left, table))
            # c is reached only over b left alone, which is so as a is reached beside it.
            self.broken(claim, (way, left, table[:-1] + (((2,), "", ("a", "b")),)))

    def test_nothing_is_a_rest_without_any_entry(self):
        self.taken(("apart", *START, ("b",), ()), ((), ("b",), (), (), TABLE))
        self.broken(("stays", *START, ("b",), "b"), ((), ("b",), ()))


if __name__ == "__main__":
    unittest.main()
