"""The whole program: what one module says of a box is what the others say, and what point 12 guarantees."""

import random
from fractions import Fraction

from planetlocks.boxes import Box, first_difference, renamed, renamed_locks, turned, with_work, without_work
from planetlocks.console import Console
from planetlocks.forms import Form, sense_of
from planetlocks.live import Bench
from planetlocks.loads import balance, freewheel, load_range, power_sense, torque_range, work_load_range
from planetlocks.motions import freedom, holds, motions, speeds_of
from planetlocks.parts import product, product_sense
from planetlocks.plans import gears_of, judge_ladder, kinds_of, levels, longest_ladder, sure_steps
from planetlocks.ranges import compared, ratios_for, same_speeds, slip_range, speed_range, sure_order
from planetlocks.splits import blend, rest_range, share_range, shares, split_driven, sum_range
from planetlocks.steps import step_at, step_sense
from planetlocks.told import depends, ratio_from, told_by
from planetlocks.trees import driven, tied, tree_form
from planetlocks.webs import is_tree, judge_ring, ring_of, tree_count, tree_sets, tree_sign
from planetlocks.words import read_box, read_locks, read_ratios, write_box, write_locks, write_range, write_ratios
from tests import oracle
from tests.gears import driven_gears, random_gears, random_locks, random_neighbours, random_told, random_work
from tests.judging import JudgingTest

ORDER = {"plus": 1, "zero": 0, "minus": -1}


def shrunk(found, later):
    """Whether the later range lies in the one that was found."""
    for end, new, sign in ((found[0], later[0], 1), (found[1], later[1], -1)):
        if end is not None and (new is None or sign * Fraction(*new) < sign * Fraction(*end)):
            return False
    return True


class SameBoxTest(JudgingTest):
    def test_speeds(self):
        """By motions, by tree forms, by ranges, by shares, by a bench, by a console, by a box that was read."""
        chance = random.Random(1)
        for box, ratios, locks, inlet in driven_gears(1, 250):
            told = random_told(chance, ratios)
            speeds = speeds_of(box, told, locks, inlet)
            drive = Fraction(*tree_form(box, ratios, locks, [(inlet, 0)])(told))
            bench = Bench(box, inlet)
            console = Console()
            console.execute(f"bench {inlet} {write_box(box)}")
            for lock in locks:
                bench.on(lock)
                console.execute(f"on {lock[0]}-{lock[1]}")
            for at, ratio in enumerate(told):
                bench.tell(at, ratio)
                console.execute(f"tell {at} {ratio[0]}/{ratio[1]}")
            read = (read_box(write_box(box)), read_ratios(box, write_ratios(box, told)),
                    read_locks(box.shafts, write_locks(box.shafts, locks)))
            with self.subTest(works=box.works, told=told, locks=locks, inlet=inlet):
                for shaft in range(box.shafts + 1):
                    both = (speeds[shaft], speeds[shaft])
                    if shaft > 0:
                        top = Fraction(*tree_form(box, ratios, locks, [(shaft, 0)])(told))
                        self.assertEqual(top / drive, Fraction(*speeds[shaft]))
                    self.assertEqual(speed_range(box, told, locks, inlet, shaft), both)
                    self.assertEqual(speed_range(*read, inlet, shaft), both)
                    self.assertEqual(bench.range_of(shaft), both)
                    self.assertEqual(console.execute(f"range {shaft}"), write_range(*both))
                    self.assertIsNotNone(ratios_for(box, ratios, locks, inlet, shaft, speeds[shaft]))
                    self.assertTrue(oracle.is_within(speed_range(box, ratios, locks, inlet, shaft),
                                                     Fraction(*speeds[shaft])))
                self.assertEqual(told_by(box, [(locks, speeds)]),
                                 [ratio if self.turns(box, at, speeds) else None for at, ratio in enumerate(told)])

    def turns(self, box, at, speeds):
        (_, _), (a, b) = oracle.differences_of(box.works[at])
        return speeds[a] != speeds[b]

    def test_shares_and_speeds(self):
        """A split whose other inlet is held is a gear, and its first shares are the speeds."""
        chance = random.Random(2)
        for box, ratios, locks in random_gears(2, 200, missing=2):
            inlet, other = chance.sample(range(1, box.shafts + 1), 2)
            if (other, 0) in locks or split_driven(box, ratios, locks, inlet, other) != "all":
                continue
            held = sorted(locks + [(other, 0)])
            for shaft in range(box.shafts + 1):
                self.assertEqual(share_range(box, ratios, locks, inlet, other, shaft),
                                 speed_range(box, ratios, held, inlet, shaft))

    def test_the_order_and_the_ranges(self):
        for box, ratios, locks, inlet in driven_gears(3, 150):
            order = sure_order(box, ratios, locks, inlet)
            groups = same_speeds(box, ratios, locks, inlet)
            console = Console()
            console.execute(f"bench {inlet} {write_box(box)}")
            for lock in locks:
                console.execute(f"on {lock[0]}-{lock[1]}")
            for at, ratio in enumerate(ratios):
                if ratio is not None:
                    console.execute(f"tell {at} {ratio[0]}/{ratio[1]}")
            for one in range(box.shafts + 1):
                for other in range(box.shafts + 1):
                    word = compared(box, ratios, locks, inlet, one, other)
                    self.assertEqual(word == "faster", (one, other) in order)
                    self.assertEqual(word == "same", any(one in group and other in group for group in groups))
                    self.assertEqual(console.execute(f"faster {one} {other}"), word)

    def test_loads_and_speeds(self):
        """The powers of all parts together are 0: torques and speeds go together, wherever they come from."""
        chance = random.Random(4)
        for box, ratios, locks, inlet in driven_gears(4, 250):
            told = random_told(chance, ratios)
            outlet = chance.randint(1, box.shafts)
            found = balance(box, told, locks, inlet, outlet)
            speeds = [Fraction(*speed) for speed in speeds_of(box, told, locks, inlet)]
            if found is None:
                self.assertEqual(speeds[outlet], 0)
                continue
            self.assertEqual(1 + Fraction(*found[0]) * speeds[outlet], 0)
            self.assertEqual(torque_range(box, told, locks, inlet, outlet), (found[0], found[0]))
            for lock, load in zip(locks, found[2]):
                self.assertEqual(load_range(box, told, locks, inlet, outlet, lock), (load, load))
                power = Fraction(*load) * speeds[lock[0]]
                self.assertEqual(ORDER[power_sense(box, told, locks, inlet, outlet, lock)], (power > 0) - (power < 0))

    def test_steps_and_plans(self):
        for seed in range(60):
            chance = random.Random(seed)
            n = chance.choice([3, 4])
            box = Box(n, [random_work(chance, n) for _ in range(n - 2)])
            ratios = [None] * len(box)
            offered = random_locks(chance, n, 5)
            gears = gears_of(box, ratios, offered, 1)
            self.assertTrue(all(gear[0] in offered and driven(box, ratios, gear, 1) == "all" for gear in gears))
            for at, kind in enumerate(kinds_of(box, ratios, offered, 1, n)):
                word = compared(box, ratios, gears[at], 1, n, 0)
                self.assertEqual((kind, word) in (("forward", "faster"), ("back", "slower"), ("still", "same"),
                                                  ("either", "either")), True)
            for low, high in sure_steps(box, ratios, offered, 1, n):
                told = random_told(chance, ratios)
                self.assertGreater(Fraction(*step_at(box, told, gears[low], gears[high], 1, n)), 0)
            found = longest_ladder(box, ratios, offered, 1, n)
            self.assertIs(judge_ladder(box, ratios, offered, 1, n, found), True)
            self.assertEqual(len(found), max(levels(box, ratios, offered, 1, n), default=-1) + 1)
            self.assertEqual(len(found), len(set(levels(box, ratios, offered, 1, n))))


class OtherBoxTest(JudgingTest):
    def test_side_by_side(self):
        chance = random.Random(5)
        gears = driven_gears(5, 120, shafts=(2, 3, 4))
        for (box, ratios, locks, inlet), (other, others, held, second) in zip(gears, gears[1:]):
            whole = box + other
            up = box.shafts
            raised = [(a + up, b + up if b else 0) for a, b in held]
            joint = (second + up, inlet)
            together = sorted(locks + raised + [joint])
            both = ratios + others
            self.assertEqual(driven(whole, both, together, inlet), "all")
            for shaft in range(1, up + 1):
                self.assertEqual(speed_range(whole, both, together, inlet, shaft),
                                 speed_range(box, ratios, locks, inlet, shaft))
            for shaft in range(1, other.shafts + 1):
                self.assertEqual(speed_range(whole, both, together, inlet, shaft + up),
                                 speed_range(other, others, held, second, shaft))
            # Tree forms of boxes side by side are products, with a sign.
            one, two = tree_form(box, ratios, locks, [(inlet, 0)]), tree_form(other, others, held, [(second, 0)])
            moved = Form([(tuple(unknown + len(box) for unknown in unknowns), number) for unknowns, number in two])
            form = tree_form(whole, both, sorted(locks + raised), [(inlet, 0), (second + up, 0)])
            self.assertIn(form, (product(one, moved), -product(one, moved)))
            told = random_told(chance, both)
            self.assertEqual(freedom(whole, told, sorted(locks + raised)),
                             freedom(box, told[:len(box)], locks) + freedom(other, told[len(box):], held))

    def test_a_work_turned(self):
        chance = random.Random(6)
        for box, ratios, locks, inlet in driven_gears(6, 250):
            if len(box) == 0:
                continue
            at = chance.randrange(len(box))
            other = turned(box, at)
            later = [(r[1], r[0]) if k == at and r else r for k, r in enumerate(ratios)]
            told = random_told(chance, ratios)
            back = [(r[1], r[0]) if k == at else r for k, r in enumerate(told)]
            self.assertEqual(motions(box, told, locks), motions(other, back, locks))
            self.assertEqual(driven(other, later, locks, inlet), "all")
            for shaft in range(box.shafts + 1):
                self.assertEqual(speed_range(other, later, locks, inlet, shaft),
                                 speed_range(box, ratios, locks, inlet, shaft))
                self.assertEqual(depends(other, later, locks, inlet, shaft), depends(box, ratios, locks, inlet, shaft))
            for outlet in range(1, box.shafts + 1):
                if driven(box, ratios, locks, outlet) == "all":
                    for lock in locks:
                        self.assertEqual(load_range(other, later, locks, inlet, outlet, lock),
                                         load_range(box, ratios, locks, inlet, outlet, lock))

    def test_renamed(self):
        chance = random.Random(7)
        for box, ratios, locks, inlet in driven_gears(7, 200):
            order = list(range(1, box.shafts + 1))
            chance.shuffle(order)
            names = {0: 0, **{shaft: at + 1 for at, shaft in enumerate(order)}}
            other, held = renamed(box, tuple(order)), renamed_locks(box.shafts, tuple(order), locks)
            for shaft in range(box.shafts + 1):
                self.assertEqual(speed_range(other, ratios, held, names[inlet], names[shaft]),
                                 speed_range(box, ratios, locks, inlet, shaft))
                if shaft > 0 and driven(box, ratios, locks, shaft) == "all":
                    self.assertEqual(torque_range(other, ratios, held, names[inlet], names[shaft]),
                                     torque_range(box, ratios, locks, inlet, shaft))
                    for at in range(len(box)):
                        self.assertEqual(work_load_range(other, ratios, held, names[inlet], names[shaft], at),
                                         work_load_range(box, ratios, locks, inlet, shaft, at))

    def test_one_work_more_and_less(self):
        for box, ratios, locks, inlet in driven_gears(8, 100):
            wider = Box(box.shafts + 1, list(box.works))
            more = with_work(wider, ("pair", box.shafts + 1, inlet))
            self.assertEqual(without_work(more, len(box)), wider)
            self.assertEqual(first_difference(more, len(box)), (box.shafts + 1, 0))
            for shaft in range(1, box.shafts + 1):
                self.assertEqual(speed_range(more, ratios + [None], locks, inlet, shaft),
                                 speed_range(box, ratios, locks, inlet, shaft))
            self.assertEqual(speed_range(more, ratios + [None], locks, inlet, box.shafts + 1), (None, (0, 1)))


class GuaranteesTest(JudgingTest):
    def test_trees_and_rings(self):
        """H1."""
        chance = random.Random(9)
        for _ in range(300):
            n = chance.randint(1, 5)
            web = [tuple(chance.sample(range(n + 1), 2)) for _ in range(chance.randint(0, n + 2))]
            self.assertEqual(tree_sign(n, web) != 0, is_tree(n, web))
            self.assertEqual(tree_count(n, web), len(tree_sets(n, web)))
            groups = len({tuple(sorted(oracle_group(n, web, shaft))) for shaft in range(n + 1)})
            ring = ring_of(n, web)
            self.assertEqual(ring is not None, len(web) > n + 1 - groups)
            self.assertTrue(ring is None or judge_ring(n, web, ring))

    def test_told_ratios_make_a_number(self):
        """H2 and H4."""
        chance = random.Random(10)
        for box, ratios, locks in random_gears(10, 200):
            told = random_told(chance, ratios)
            for inlet in range(1, box.shafts + 1):
                number = tree_form(box, told, locks, [(inlet, 0)])([])
                self.assertEqual(number == (0, 1), speeds_of(box, told, locks, inlet) is None)
                sense = sense_of(tree_form(box, ratios, locks, [(inlet, 0)]))
                self.assertEqual(driven(box, ratios, locks, inlet),
                                 {"plus": "all", "minus": "all", "both": "some", "zero": "none"}[sense])
                for other in range(1, box.shafts + 1):
                    if other != inlet:
                        self.assertEqual(tree_form(box, ratios, locks, [(inlet, other)]),
                                         tree_form(box, ratios, locks, [(inlet, 0)])
                                         - tree_form(box, ratios, locks, [(other, 0)]))

    def test_freewheels_and_speeds(self):
        """H8: a freewheel serves exactly if the second gear turns the outlet the same way and faster."""
        chance = random.Random(11)
        signs = set()
        for box, ratios, locks, others in random_neighbours(11, 900):
            told = random_told(chance, ratios)
            inlet, outlet = chance.randint(1, box.shafts), chance.randint(1, box.shafts)
            one, two = speeds_of(box, told, locks, inlet), speeds_of(box, told, others, inlet)
            if one is None or two is None or speeds_of(box, told, locks, outlet) is None:
                continue
            quotient = Fraction(*two[outlet]) / Fraction(*one[outlet])
            sense = freewheel(box, told, locks, others, inlet, outlet)
            self.assertEqual(sense, "plus" if quotient > 1 else "minus" if quotient < 1 else "zero")
            signs.add(sense)
        self.assertEqual(signs, {"plus", "minus", "zero"})

    def test_further_told_ratios(self):
        """H10."""
        chance = random.Random(12)
        for box, ratios, locks, inlet in driven_gears(12, 300):
            unknown = [at for at, ratio in enumerate(ratios) if ratio is None]
            if not unknown:
                continue
            more = list(ratios)
            more[chance.choice(unknown)] = chance.choice([(1, 1), (7, 3), (1, 10 ** 12), (10 ** 12, 1)])
            self.assertEqual(driven(box, more, locks, inlet), "all")
            order = sure_order(box, more, locks, inlet)
            self.assertTrue(all(pair in order for pair in sure_order(box, ratios, locks, inlet)))
            for shaft in range(box.shafts + 1):
                self.assertTrue(shrunk(speed_range(box, ratios, locks, inlet, shaft),
                                       speed_range(box, more, locks, inlet, shaft)))
                other = chance.randint(0, box.shafts)
                self.assertTrue(shrunk(slip_range(box, ratios, locks, inlet, shaft, other),
                                       slip_range(box, more, locks, inlet, shaft, other)))
                later = depends(box, more, locks, inlet, shaft)
                self.assertTrue(all(at in depends(box, ratios, locks, inlet, shaft) for at in later))
                if shaft > 0 and driven(box, ratios, locks, shaft) == "all":
                    for lock in locks:
                        self.assertTrue(shrunk(load_range(box, ratios, locks, inlet, shaft, lock),
                                               load_range(box, more, locks, inlet, shaft, lock)))

    def test_further_told_ratios_of_splits(self):
        """H10 and H12."""
        chance = random.Random(13)
        for box, ratios, locks in random_gears(13, 250, missing=2):
            inlet, other = chance.sample(range(1, box.shafts + 1), 2)
            told = random_told(chance, ratios)
            form = tree_form(box, told, locks, [(inlet, 0), (other, 0)])
            self.assertEqual(len(form) == 0, shares(box, told, locks, inlet, other, 1) is None)
            if split_driven(box, ratios, locks, inlet, other) != "all":
                continue
            for shaft in range(box.shafts + 1):
                for call in (share_range, sum_range):
                    self.assertTrue(shrunk(call(box, ratios, locks, inlet, other, shaft),
                                           call(box, told, locks, inlet, other, shaft)))
                word = blend(box, ratios, locks, inlet, other, shaft)
                if word == "between":
                    self.assertEqual(blend(box, told, locks, inlet, other, shaft), word)
                if word == "against":
                    self.assertEqual(blend(box, told, locks, inlet, other, shaft), word)
                    found = rest_range(box, told, locks, inlet, other, shaft)
                    self.assertGreater(found[0][0], 0)

    def test_senses_of_products(self):
        """H9: a product with itself is never below 0, with another sign never above."""
        chance = random.Random(14)
        for box, ratios, locks in random_gears(14, 200):
            form = tree_form(box, ratios, locks, [(chance.randint(1, box.shafts), 0)])
            sense = sense_of(form)
            due = {"zero": "zero", "both": "plus or zero"}.get(sense, "plus")
            self.assertEqual(product_sense([form, form]), due)
            self.assertEqual(product_sense([form, form, form]), sense)

    def test_tied_boxes(self):
        """A box that is tied at some ratios has there no other motion than standing still."""
        chance = random.Random(15)
        for box, ratios, locks in random_gears(15, 200, missing=0):
            told = random_told(chance, ratios)
            word = tied(box, ratios, locks)
            self.assertEqual(tied(box, told, locks), "all" if freedom(box, told, locks) == 0 else "none")
            if word != "some":
                self.assertEqual(tied(box, told, locks), word)

    def test_looks_tell_what_speeds_hang_on(self):
        chance = random.Random(16)
        for box, ratios, locks, inlet in driven_gears(16, 200):
            told = random_told(chance, ratios)
            speeds = speeds_of(box, told, locks, inlet)
            self.assertTrue(holds(box, told, locks, speeds))
            for shaft in range(box.shafts + 1):
                if len(depends(box, ratios, locks, inlet, shaft)) == 1:
                    at = depends(box, ratios, locks, inlet, shaft)[0]
                    self.assertEqual(ratio_from(box, ratios, locks, inlet, shaft, speeds[shaft]), told[at])

    def test_step_senses_by_told_ratios(self):
        """H6 and H10."""
        chance = random.Random(17)
        for box, ratios, locks, others in random_neighbours(17, 600):
            inlet, outlet = chance.randint(1, box.shafts), chance.randint(1, box.shafts)
            if driven(box, ratios, locks, inlet) == driven(box, ratios, others, inlet) == "all":
                told = random_told(chance, ratios)
                sense = step_sense(box, ratios, locks, others, inlet, outlet)
                step = Fraction(*step_at(box, told, locks, others, inlet, outlet))
                self.assertTrue(oracle.fits_sense(sense, [step]))
                self.assertEqual(step, Fraction(*speeds_of(box, told, others, inlet)[outlet])
                                 - Fraction(*speeds_of(box, told, locks, inlet)[outlet]))


def oracle_group(n, web, shaft):
    """The shafts that are joined with this one."""
    reached = {shaft}
    for _ in range(n):
        for one in web:
            if reached & set(one):
                reached |= set(one)
    return reached
