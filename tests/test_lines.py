"""Lines: deeds, refusals, and ticks against a table of its own [14, 15], and the promise over them [3]."""

import copy
import unittest
from random import Random

from callwheel import errors
from callwheel.lines import Line
from callwheel.queues import due_rounds, most_ticks
from callwheel.tapes import parted, rounds_on
from callwheel.wires import dumb_numbers, wire_parts
from tables import NO_TOWNS, LineTable, all_numbers, done, some_deed, some_town
from things import NUMBERS, OTHER_KINDS, WRONG_TEXTS, told_row

LOOPS = (("12", "3", "4567"), ("1",), ("21", "996"))
TOWN = (LOOPS, 2, 5)
GREAT = 10 ** 30 - 1
NO_BOXES = OTHER_KINDS + WRONG_TEXTS + ["2", "13", "33", LOOPS, TOWN, ("3",), ["3"]]


def state(line):
    """All that a line of TOWN tells."""
    return (
        line.clock(), line.cuts(), line.is_joined(), [line.box(number) for number in all_numbers(TOWN)],
        [(line.near_tape(loop), line.far_tape(loop)) for loop in range(len(LOOPS))],
    )


def ticks(line, many):
    """The rounds that came whole in so many ticks, (tick, number)."""
    return [(line.clock() - 1, number) for _ in range(many) for number in line.tick()]


def busy_line(chance, town, deeds=40):
    """A line of the town behind some deeds and ticks."""
    line = Line(town)
    for _ in range(deeds):
        deed = some_deed(chance, town, line.cuts(), line.is_joined())
        if deed:
            done(line, deed)
        ticks(line, chance.randrange(30))
    return line


class Lines(unittest.TestCase):
    def assert_refused(self, name, call, *told):
        """The refusal is of just this class."""
        with self.assertRaises(errors.WheelError) as refused:
            call(*told)
        self.assertIs(type(refused.exception), getattr(errors, name), told)

    def assert_state_refused(self, line, name, word, *told):
        before = state(line)
        self.assert_refused(name, getattr(line, word), *told)
        self.assertEqual(state(line), before)


class New(Lines):
    def test_a_new_line(self):
        for town in (TOWN, ((("1",),), 1, 1), ((tuple(NUMBERS[:12]), ("6666",)), 4, 50)):
            line = Line(town)
            self.assertEqual(line.clock(), 0)
            self.assertIs(type(line.clock()), int)
            self.assertEqual(line.cuts(), tuple(() for _ in town[0]))
            self.assertIs(line.is_joined(), False)
            for loop, numbers in enumerate(town[0]):
                self.assertEqual((line.near_tape(loop), line.far_tape(loop)), ((), ()))
                for number in numbers:
                    self.assertEqual(line.box(number), (0, 0, town[2], None, 0))

    def test_the_key_is_not_held(self):
        line = Line(TOWN)
        self.assertEqual(line.tick(), ())
        for loop in range(3):
            self.assertEqual((line.near_tape(loop), line.far_tape(loop)), ((0,), (0,)))

    def test_no_town(self):
        for thing in NO_TOWNS:
            before = copy.deepcopy(thing)
            self.assert_refused("NoTown", Line, thing)
            self.assertEqual(thing, before)

    def test_two_lines_of_one_town(self):
        one, other = Line(TOWN), Line(TOWN)
        fresh = state(other)
        one.pull("12")
        one.wind("3")
        one.cut(0, 1)
        one.join()
        one.clear(2)
        ticks(one, 30)
        self.assertEqual(state(other), fresh)
        before = state(one)
        other.pull("1")
        other.cut(1, 0)
        ticks(other, 30)
        self.assertEqual(state(one), before)

    def test_the_town_stays(self):
        town = copy.deepcopy(TOWN)
        busy_line(Random(1), town)
        self.assertEqual(town, TOWN)


class Deeds(Lines):
    def test_pull(self):
        line = Line(TOWN)
        self.assertIs(line.pull("12"), True)
        self.assertEqual(line.box("12"), (2, 0, 5, None, 0))
        self.assertIs(line.pull("12"), False)
        self.assertEqual(line.box("12"), (2, 0, 5, None, 0))
        self.assertEqual(line.box("3"), (0, 0, 5, None, 0))

    def test_pull_at_each_tick_till_it_is_sent(self):
        line = Line(TOWN)
        line.pull("1")
        # Eight quiet ticks, six of the row, four more and six again.
        for tick in range(8 + 6 + 4 + 6):
            before = state(line)
            self.assertIs(line.pull("1"), False, tick)
            self.assertEqual(state(line), before)
            line.tick()
        self.assertIs(line.pull("1"), True)

    def test_wind(self):
        line = Line(((("1", "2"),), 3, 2))
        line.pull("1")
        self.assertEqual(ticks(line, 60), [(13, "1"), (23, "1")])
        self.assertEqual(line.box("1"), (1, 2, 0, None, 12))
        self.assertIsNone(line.wind("1"))
        self.assertEqual(line.box("1"), (1, 2, 2, None, 12))
        self.assertEqual(ticks(line, 60), [(65, "1")])
        self.assertEqual(line.box("1"), (0, 0, 1, None, 12))
        self.assertEqual(line.box("2"), (0, 0, 2, None, 12))

    def test_no_box(self):
        line = busy_line(Random(2), TOWN)
        before = state(line)
        for thing in NO_BOXES:
            copied = copy.deepcopy(thing)
            for word in ("pull", "wind", "box"):
                self.assert_refused("NoBox", getattr(line, word), thing)
            self.assertEqual(thing, copied)
        self.assertEqual(state(line), before)

    def test_cut_and_mend_each_stretch(self):
        line = Line(TOWN)
        cuts = [[], [], []]
        for loop, numbers in enumerate(LOOPS):
            for stretch in reversed(range(len(numbers) + 1)):
                self.assertIsNone(line.cut(loop, stretch))
                cuts[loop].insert(0, stretch)
                self.assertEqual(line.cuts(), tuple(tuple(row) for row in cuts))
                self.assert_state_refused(line, "NoStretch", "cut", loop, stretch)
        for loop, stretch in ((0, 2), (0, 0), (1, 1), (0, 3), (0, 1), (2, 1), (2, 0), (2, 2), (1, 0)):
            self.assertIsNone(line.mend(loop, stretch))
            cuts[loop].remove(stretch)
            self.assertEqual(line.cuts(), tuple(tuple(row) for row in cuts))
            self.assert_state_refused(line, "NoStretch", "mend", loop, stretch)
        self.assertEqual(line.cuts(), ((), (), ()))

    def test_no_loop_and_no_stretch(self):
        for joined in (False, True):
            line = busy_line(Random(3), TOWN)
            if line.is_joined() != joined:
                done(line, ("join",) if joined else ("part",))
            for loop in (-1, 3, 4, -3, GREAT, -GREAT):
                for stretch in (0, 1, 2, 3, 4, -1, GREAT, -GREAT):
                    self.assert_state_refused(line, "NoLoop", "cut", loop, stretch)
                    self.assert_state_refused(line, "NoLoop", "mend", loop, stretch)
                for word in ("clear", "near_tape", "far_tape"):
                    self.assert_state_refused(line, "NoLoop", word, loop)
            for loop, numbers in enumerate(LOOPS):
                for stretch in (-1, -2, len(numbers) + 1, len(numbers) + 2, 12, 13, GREAT, -GREAT):
                    self.assert_state_refused(line, "NoStretch", "cut", loop, stretch)
                    self.assert_state_refused(line, "NoStretch", "mend", loop, stretch)

    def test_true_and_false_are_no_loops_and_no_stretches(self):
        line = Line(TOWN)
        line.cut(0, 0)
        line.cut(0, 1)
        for truth in (True, False):
            for word in ("clear", "near_tape", "far_tape"):
                self.assert_state_refused(line, "NoLoop", word, truth)
            for word in ("cut", "mend"):
                self.assert_state_refused(line, "NoLoop", word, truth, 0)
                self.assert_state_refused(line, "NoStretch", word, 0, truth)
                self.assert_state_refused(line, "NoStretch", word, 1, truth)

    def test_join_and_part(self):
        line = Line(TOWN)
        self.assert_state_refused(line, "NoDeed", "part")
        self.assertIsNone(line.join())
        self.assertIs(line.is_joined(), True)
        self.assert_state_refused(line, "NoDeed", "join")
        self.assertIsNone(line.part())
        self.assertIs(line.is_joined(), False)
        self.assert_state_refused(line, "NoDeed", "part")
        self.assertIsNone(line.join())
        self.assertIs(line.is_joined(), True)

    def test_what_is_refused_holds_no_key(self):
        for joined in (False, True):
            line = Line(TOWN)
            line.cut(0, 1)
            if joined:
                line.join()
            ticks(line, 2)
            for deed in (("cut", 0, 1), ("mend", 0, 0), ("cut", 3, 0), ("clear", 3), ("clear", -1), ("pull", "2"),
                         ("wind", 1), ("join",) if joined else ("part",)):
                with self.assertRaises(errors.WheelError):
                    done(line, deed)
                line.tick()
            for loop in range(3):
                expected = (2, 2) if joined or loop == 0 else (0, 0)
                self.assertEqual(line.near_tape(loop), expected + (0,) * 8)
                self.assertEqual(line.far_tape(loop), expected + (0,) * 8)

    def test_what_is_refused_does_not_lengthen_the_key(self):
        line = Line(TOWN)
        line.cut(0, 1)
        line.tick()
        for deed in (("cut", 0, 1), ("mend", 0, 2), ("cut", 0, 9)):
            self.assert_refused("NoStretch", done, line, deed)
        ticks(line, 3)
        self.assertEqual(line.near_tape(0), (2, 2, 0, 0))


class Key(Lines):
    def keys_of(self, line):
        """Both tapes of each loop, where they are alike."""
        for loop in range(3):
            self.assertEqual(line.near_tape(loop), line.far_tape(loop))
        return [line.near_tape(loop) for loop in range(3)]

    def test_on_the_loop_alone(self):
        for deed in (("cut", 0, 1), ("clear", 0)):
            line = Line(TOWN)
            self.assertIsNone(done(line, deed))
            ticks(line, 4)
            self.assertEqual(self.keys_of(line), [(2, 2, 0, 0), (0,) * 4, (0,) * 4])
        line.cut(2, 0)
        ticks(line, 4)
        line.mend(2, 0)
        ticks(line, 4)
        self.assertEqual(self.keys_of(line)[2], (0,) * 4 + (2, 2, 0, 0) * 2)

    def test_on_all_loops(self):
        line = Line(TOWN)
        line.join()
        ticks(line, 4)
        for deed in (("cut", 0, 1), ("clear", 1), ("mend", 0, 1), ("part",)):
            done(line, deed)
            ticks(line, 4)
        self.assertEqual(self.keys_of(line), [(2, 2, 0, 0) * 5] * 3)

    def test_held_anew(self):
        line = Line(TOWN)
        line.clear(1)
        line.clear(1)
        line.tick()
        line.clear(1)
        ticks(line, 3)
        self.assertEqual(self.keys_of(line)[1], (2, 2, 2, 0))
        line.clear(1)
        ticks(line, 1)
        line.join()
        ticks(line, 1)
        line.part()
        ticks(line, 4)
        self.assertEqual(self.keys_of(line), [(0,) * 5 + (2, 2, 2, 0, 0), (2, 2, 2, 0) + (2,) * 4 + (0, 0), (0,) * 5 + (2, 2, 2, 0, 0)])

    def test_cut_ahead_of_the_joining_and_behind_it(self):
        line = Line(TOWN)
        line.cut(0, 1)
        line.tick()
        line.join()
        ticks(line, 3)
        self.assertEqual(self.keys_of(line), [(2, 2, 2, 0), (0, 2, 2, 0), (0, 2, 2, 0)])

    def test_it_makes_each_running_box_step_back(self):
        for number in ("12", "3", "4567"):
            for run in range(1, len(told_row(number))):
                line = Line(TOWN)
                line.pull(number)
                ticks(line, 8 + run)
                line.clear(0)
                self.assertEqual(ticks(line, 2), [])
                self.assertEqual(line.box(number), (2, 0, 5, None, 0))
                self.assertEqual(parted(line.near_tape(0)), (("quiet", 8), ("spoilt", run), ("key", 2)))
                self.assertEqual(ticks(line, 8 + len(told_row(number)))[-1][1], number)

    def test_a_box_may_start_at_the_keys_first_tick(self):
        line = Line(TOWN)
        ticks(line, 12)
        line.pull("12")
        line.clear(0)
        line.tick()
        self.assertEqual(line.box("12"), (2, 0, 5, 1, 0))
        line.tick()
        self.assertEqual(line.box("12"), (2, 0, 5, None, 0))
        self.assertEqual(line.near_tape(0), (0,) * 12 + (2, 2))


class Ticks(Lines):
    def test_one_round(self):
        line = Line(TOWN)
        line.pull("1")
        told = [line.tick() for _ in range(24)]
        self.assertEqual(told, [()] * 13 + [("1",)] + [()] * 9 + [("1",)])
        self.assertEqual(line.near_tape(1), (0,) * 8 + told_row("1") + (0,) * 4 + told_row("1"))
        self.assertEqual(line.far_tape(1), line.near_tape(1))
        self.assertEqual(line.near_tape(0), (0,) * 24)
        self.assertEqual(line.clock(), 24)

    def test_in_the_order_of_texts(self):
        line = Line(((("5",), ("14",), ("41",), ("23",)), 1, 1))
        for number in ("5", "41", "14", "23"):
            line.pull(number)
        rows = {len(told_row(number)) for number in ("14", "41", "23")}
        self.assertEqual(len(rows), 1)
        told = [line.tick() for _ in range(8 + rows.pop())]
        self.assertEqual(told[-1], ("14", "23", "41"))
        self.assertEqual(told[-3], ("5",))

    def test_a_dumb_box_feels_its_wire_broken(self):
        line = Line(TOWN)
        ticks(line, 9)
        line.cut(0, 1)
        line.cut(0, 2)
        line.pull("3")
        ticks(line, 1)
        self.assertEqual(line.box("3"), (2, 0, 5, 1, 0))
        ticks(line, 50)
        self.assertEqual(line.box("3"), (2, 0, 5, None, 0))
        self.assertEqual(line.box("12"), (0, 0, 5, None, 12))
        self.assertEqual(line.near_tape(0), (0,) * 9 + (2, 2) + (0,) * 49)
        self.assertEqual(line.far_tape(0), line.near_tape(0))

    def test_one_cut(self):
        line = Line(TOWN)
        line.cut(0, 1)
        for number in LOOPS[0]:
            line.pull(number)
        ticks(line, 200)
        self.assertEqual({number for _, number in rounds_on(line.near_tape(0))}, {"12"})
        self.assertEqual({number for _, number in rounds_on(line.far_tape(0))}, {"3", "4567"})

    def test_a_part_without_boxes(self):
        for stretch, empty, other in ((0, "near_tape", "far_tape"), (3, "far_tape", "near_tape")):
            line = Line(TOWN)
            line.cut(0, stretch)
            for number in LOOPS[0]:
                line.pull(number)
            ticks(line, 200)
            self.assertEqual(getattr(line, empty)(0), (2, 2) + (0,) * 198)
            self.assertEqual(len(rounds_on(getattr(line, other)(0))), 6)
            line.join()
            line.pull("1")
            ticks(line, 30)
            self.assertEqual(line.near_tape(0)[200:], line.far_tape(0)[200:])
            self.assertEqual(len(rounds_on(getattr(line, empty)(0))), 2)

    def test_told_tuples(self):
        line = busy_line(Random(4), TOWN)
        for thing in (line.tick(), line.box("12"), line.near_tape(0), line.far_tape(0), line.cuts(), *line.cuts()):
            self.assertIs(type(thing), tuple)
        tape = line.near_tape(0)
        self.assertEqual({type(sign) for sign in tape}, {int})
        line.tick()
        self.assertEqual(len(tape) + 1, len(line.near_tape(0)))

    def test_asking_changes_nothing(self):
        one, other = Line(TOWN), Line(TOWN)
        chance = Random(5)
        for _ in range(60):
            deed = some_deed(chance, TOWN, one.cuts(), one.is_joined())
            if deed:
                self.assertEqual(done(one, deed), done(other, deed))
            for _ in range(chance.randrange(20)):
                state(one)
                self.assertEqual(one.tick(), other.tick())
        self.assertEqual(state(one), state(other))


class AgainstTheTable(Lines):
    def assert_alike(self, line, table):
        self.assertEqual(line.clock(), table.clock)
        self.assertEqual(line.cuts(), table.cuts())
        self.assertIs(line.is_joined(), table.joined)
        for number, box in table.boxes.items():
            self.assertEqual(line.box(number), box)

    def assert_tapes(self, line, table):
        for loop, (near, far) in enumerate(table.tapes):
            self.assertEqual(line.near_tape(loop), tuple(near))
            self.assertEqual(line.far_tape(loop), tuple(far))

    def walk(self, chance, town, deeds, most, words=None):
        line, table = Line(town), LineTable(town)
        came = []
        for _ in range(deeds):
            deed = some_deed(chance, town, table.cuts(), table.joined, words)
            if deed:
                self.assertIs(done(line, deed), table.do(*deed), deed)
                self.assert_alike(line, table)
            for _ in range(chance.choice((0, 0, 1, 2, 3, most // 4, most))):
                told = line.tick()
                self.assertEqual(told, table.tick())
                self.assertIs(type(told), tuple)
                came += [(line.clock() - 1, number) for number in told]
                self.assert_alike(line, table)
        self.assert_tapes(line, table)
        return line, came

    def test_small_towns(self):
        chance = Random(151)
        for _ in range(40):
            self.walk(chance, some_town(chance, boxes=chance.randrange(1, 5)), 60, 40)

    def test_large_towns(self):
        chance = Random(152)
        for loops in (1, 2, 4):
            self.walk(chance, some_town(chance, loops=loops, boxes=12), 120, 60)

    def test_joined_towns(self):
        chance = Random(153)
        words = ("pull",) * 12 + ("wind", "join", "join", "part", "cut", "mend")
        for boxes in (1, 3, 12):
            line, came = self.walk(chance, some_town(chance, loops=4, boxes=boxes), 100, 80, words)
            self.assertTrue(came)

    def test_the_rounds_on_the_tapes_are_just_those_that_ticks_told(self):
        chance = Random(154)
        for _ in range(15):
            town = some_town(chance)
            line, came = self.walk(chance, town, 60, 60)
            tapes = [tape(loop) for loop in range(len(town[0])) for tape in (line.near_tape, line.far_tape)]
            self.assertEqual({pair for tape in tapes for pair in rounds_on(tape)}, set(came))
            self.assertEqual(len(set(came)), len(came))
            for tape in tapes:
                self.assert_pieces(line, town, tape)

    def assert_pieces(self, line, town, tape):
        """No piece is odd; what is no round and no quiet ends at the key, or at the tape's end while its box runs."""
        pieces = parted(tape)
        for at, (word, _) in enumerate(pieces):
            self.assertIn(word, ("key", "quiet", "round", "spoilt", "begun"))
            if word == "spoilt":
                self.assertEqual(pieces[at + 1][0], "key")
            if word == "begun":
                self.assertEqual(at, len(pieces) - 1)
                self.assertTrue(any(line.box(number)[3] is not None for number in all_numbers(town)))


class TheWhole(Lines):
    def test_behind_twelve_quiet_ticks_as_the_plain_queue(self):
        chance = Random(31)
        for _ in range(20):
            town = some_town(chance, spring=50)
            numbers = list(town[0][0])
            pulls = sorted((chance.choice((0, 30, 300)) * chance.randrange(4), chance.choice(numbers)) for _ in range(12))
            line = Line(town)
            ticks(line, 12)
            came = []
            for tick in range(900 + most_ticks(town[1], tuple(numbers))):
                for at, number in pulls:
                    if at == tick:
                        line.pull(number)
                came += ticks(line, 1)
            begun = tuple((tick + 1 - 12 - len(told_row(number)), number) for tick, number in came)
            self.assertEqual(begun, due_rounds(town[1], tuple(pulls)))

    def test_each_box_that_is_not_dumb_sends_all_within_the_told_ticks(self):
        chance = Random(32)
        for _ in range(25):
            town = some_town(chance, spring=chance.choice((4, 5, 50)))
            line = busy_line(chance, town)
            for number in all_numbers(town):
                line.pull(number)
                line.wind(number)
            dumb = dumb_numbers(town, line.cuts())
            parts = wire_parts(town, line.cuts(), line.is_joined())
            lefts = {number: line.box(number)[0] for number in all_numbers(town)}
            came = [number for _, number in ticks(line, 2 + max(most_ticks(town[1], part) for part in parts))]
            for number, left in lefts.items():
                self.assertEqual(came.count(number), 0 if number in dumb else left)
                self.assertEqual(line.box(number)[0], left if number in dumb else 0)

    def test_just_as_many_ticks_as_told_behind_the_key(self):
        chance = Random(33)
        for rounds in (1, 2, 3, 4):
            town = some_town(chance, loops=2, boxes=6, rounds=rounds, spring=50)
            line = Line(town)
            line.join()
            for number in all_numbers(town):
                line.pull(number)
            came = ticks(line, 2 + most_ticks(rounds, tuple(all_numbers(town))))
            self.assertEqual(len(came), 12 * rounds)
            self.assertEqual(came[-1][0], line.clock() - 1)

    def test_one_cut_lets_both_halves_go_as_two_loops(self):
        chance = Random(34)
        for _ in range(12):
            (numbers,), rounds, spring = some_town(chance, loops=1, boxes=chance.randrange(2, 13), spring=50)
            stretch = chance.randrange(1, len(numbers))
            cut, two = Line(((numbers,), rounds, spring)), Line(((numbers[:stretch], numbers[stretch:]), rounds, spring))
            cut.cut(0, stretch)
            two.clear(0)
            two.clear(1)
            for _ in range(20):
                number = chance.choice(numbers)
                self.assertEqual(cut.pull(number), two.pull(number))
                for _ in range(chance.randrange(60)):
                    self.assertEqual(cut.tick(), two.tick())
            self.assertEqual([cut.box(number) for number in numbers], [two.box(number) for number in numbers])
            self.assertEqual((cut.near_tape(0), cut.far_tape(0)), (two.near_tape(0), two.far_tape(1)))

    def test_a_joined_town_ticks_as_one_loop(self):
        chance = Random(35)
        for _ in range(12):
            town = some_town(chance, loops=chance.randrange(1, 5), boxes=3, spring=50)
            line = Line(town)
            for _ in range(6):
                deed = some_deed(chance, town, line.cuts(), False, ("cut", "clear"))
                if deed:
                    done(line, deed)
            line.join()
            (numbers,) = wire_parts(town, line.cuts(), True)
            if not numbers:
                continue
            one = Line(((numbers,),) + town[1:])
            one.clear(0)
            for _ in range(20):
                number = chance.choice(numbers)
                self.assertEqual(line.pull(number), one.pull(number))
                for _ in range(chance.randrange(60)):
                    self.assertEqual(line.tick(), one.tick())
            for loop in range(len(town[0])):
                self.assertEqual((line.near_tape(loop), line.far_tape(loop)), (one.near_tape(0), one.far_tape(0)))

    def test_between_two_cuts_nobody_is_heard_and_nothing_is_lost(self):
        numbers = tuple(NUMBERS[:9])
        for first, last in ((0, 9), (0, 1), (3, 5), (8, 9), (2, 9)):
            line = Line(((numbers,), 2, 2))
            ticks(line, 20)
            line.cut(0, first)
            line.cut(0, last)
            for number in numbers:
                line.pull(number)
            dumb = numbers[first:last]
            self.assertEqual({number for _, number in ticks(line, 600)}, set(numbers) - set(dumb))
            for number in dumb:
                self.assertEqual(line.box(number), (2, 0, 2, None, 0))
            line.mend(0, first)
            self.assertEqual({number for _, number in ticks(line, 600)}, set(dumb))
            self.assertEqual({number for _, number in rounds_on(line.far_tape(0)[620:])}, set())
            for number in numbers:
                self.assertEqual(line.box(number), (0, 0, 0, None, 12))

    def test_a_round_broken_off_by_a_cut_comes_behind_it(self):
        line = Line(TOWN)
        line.pull("4567")
        ticks(line, 20)
        line.cut(0, 0)
        row = len(told_row("4567"))
        self.assertEqual(ticks(line, 2 + 8 + row), [(20 + 2 + 8 + row - 1, "4567")])

    def test_a_line_of_four_hundred_deeds_and_six_thousand_ticks(self):
        chance = Random(36)
        town = some_town(chance, loops=4, boxes=12, spring=50)
        line = Line(town)
        for _ in range(400):
            deed = some_deed(chance, town, line.cuts(), line.is_joined())
            if deed:
                done(line, deed)
            ticks(line, 15)
        self.assertEqual(line.clock(), 6000)
        self.assertEqual(len(line.near_tape(3)), 6000)


if __name__ == "__main__":
    unittest.main()
