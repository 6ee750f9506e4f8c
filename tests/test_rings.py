import random
import unittest

from helper import Case, cut_marks, drawn_net, is_kept_paper, nodes_with_fair_ring, walks_fairly

from lassoscribe.nets import goes, is_paper
from lassoscribe.rings import ring_from, shut


class RingsCase(Case):
    def assert_ring(self, net, node):
        told = self.ask(ring_from, net, node)
        self.assertTrue(type(told) is tuple and [type(part) for part in told] == [list, list], told)
        stem, ring = told
        self.assertTrue(walks_fairly(net, node, stem, ring), (net, node, told) if net[0] < 9 else node)
        self.assertTrue(goes(net, node, stem, ring))
        self.assertLess(len(stem), net[0])
        self.assertLessEqual(len(ring), net[0] * (net[2] + 1))

    def assert_ring_or_tuple(self, net, fair, nodes=None):
        rows = self.ask(shut, net)
        self.assertEqual([row is None for row in rows], fair)
        for row in rows:
            self.assertTrue(row is None or type(row) is tuple and len(row) == 2 and type(row[0]) is int)
        starts = [node for node in range(net[0]) if not fair[node]]
        self.assertTrue(is_kept_paper(net, starts, rows), (net, rows) if net[0] < 9 else None)
        self.assert_told(True, is_paper, net, starts, rows)
        for node in range(net[0]) if nodes is None else nodes:
            if fair[node]:
                self.assert_ring(net, node)
            else:
                self.assert_told(None, ring_from, net, node)

    def assert_as_reached(self, net):
        self.assert_ring_or_tuple(net, nodes_with_fair_ring(net))


class SmallNetsTest(RingsCase):
    def test_without_ways(self):
        for count in [1, 2, 5]:
            for marks in [0, 1, 12]:
                self.assert_ring_or_tuple((count, [], marks), [False] * count)

    def test_without_marks(self):
        self.assert_ring_or_tuple((1, [(0, 0, ())], 0), [True])
        self.assert_ring_or_tuple((2, [(0, 1, ())], 0), [False, False])
        self.assert_ring_or_tuple((2, [(0, 1, ()), (1, 1, ())], 0), [True, True])
        self.assert_ring_or_tuple((2, [(1, 0, ()), (1, 1, ())], 0), [False, True])
        self.assert_ring_or_tuple((3, [(0, 1, ()), (1, 0, ()), (0, 2, ())], 0), [True, True, False])

    def test_a_way_from_a_node_to_itself(self):
        self.assert_ring_or_tuple((1, [(0, 0, (0,))], 1), [True])
        self.assert_ring_or_tuple((1, [(0, 0, ())], 1), [False])
        self.assert_ring_or_tuple((1, [(0, 0, (0,)), (0, 0, (1,))], 2), [True])
        self.assert_ring_or_tuple((1, [(0, 0, (0,)), (0, 0, (2,))], 3), [False])

    def test_ways_alike(self):
        self.assert_ring_or_tuple((2, [(0, 1, ()), (0, 1, ()), (1, 0, (0,)), (1, 0, (0,))], 1), [True, True])
        self.assert_ring_or_tuple((2, [(0, 1, ()), (0, 1, ()), (1, 0, ()), (1, 0, ())], 1), [False, False])
        self.assert_ring_or_tuple((2, [(0, 1, ()), (0, 1, (0,)), (1, 0, ()), (1, 0, (1,))], 2), [True, True])
        self.assert_ring_or_tuple((1, [(0, 0, ())] * 3, 0), [True])

    def test_marks_taken_in_two_knots_make_no_ring(self):
        ways = [(0, 1, (0,)), (1, 0, ()), (1, 2, (0, 1)), (2, 3, (1,)), (3, 2, ())]
        self.assert_ring_or_tuple((4, ways, 2), [False] * 4)
        self.assert_ring_or_tuple((4, ways + [(3, 0, ())], 2), [True] * 4)
        self.assert_ring_or_tuple((4, ways + [(3, 3, (0,))], 2), [True] * 4)
        self.assert_ring_or_tuple((4, ways + [(1, 1, (1,))], 2), [True, True, False, False])

    def test_a_mark_taken_between_knots_alone(self):
        ways = [(0, 0, ()), (0, 1, (0,)), (1, 1, ())]
        self.assert_ring_or_tuple((2, ways, 1), [False, False])

    def test_rounds_with_a_stem(self):
        for length in range(1, 7):
            ways = [(node, node + 1, ()) for node in range(length)] + [(length, length, (0,))]
            self.assert_ring_or_tuple((length + 1, ways, 1), [True] * (length + 1))
            self.assertEqual(ring_from((length + 1, ways, 1), 0), (list(range(length)), [length]))

    def test_all_nets_of_two_nodes_and_three_ways(self):
        every = [(begin, end, taken) for begin in range(2) for end in range(2) for taken in [(), (0,)]]
        for one in every:
            for two in every:
                for three in every:
                    for marks in [0, 1]:
                        ways = [(begin, end, taken[:marks]) for begin, end, taken in [one, two, three]]
                        self.assert_as_reached((2, ways, marks))

    def test_drawn_nets(self):
        source = random.Random(201)
        fair, shut_out = 0, 0
        for _ in range(1500):
            count = source.randint(1, 8)
            net = drawn_net(source, count, source.randint(0, 2 * count), source.randint(0, 3), 35)
            self.assert_as_reached(net)
            found = nodes_with_fair_ring(net)
            fair += sum(found)
            shut_out += len(found) - sum(found)
        self.assertGreater(min(fair, shut_out), 1000)

    def test_drawn_nets_of_some_nodes(self):
        source = random.Random(202)
        for _ in range(60):
            count = source.randint(10, 40)
            net = drawn_net(source, count, source.randint(count // 2, 2 * count), source.randint(0, 12), 12)
            self.assert_as_reached(net)

    def test_told_is_the_askers_own(self):
        for net in [(1, [], 0), (2, [(0, 1, ()), (1, 1, (0,))], 1), (3, [(0, 1, ()), (1, 0, ()), (0, 2, ())], 0)]:
            self.assert_own(shut, net)
        net = (3, [(0, 1, ()), (1, 2, (0,)), (2, 1, (1,))], 2)
        for node in range(3):
            self.assert_own(ring_from, (3, list(net[1]), 2), node)
            stem, ring = ring_from(net, node)
            kept = list(ring)
            stem.append("spoilt")
            self.assertEqual(ring, kept)


class GreatNetsTest(RingsCase):
    """Nets of six hundred nodes, of six thousand ways, of twelve marks."""

    def test_one_round_of_all_nodes(self):
        ways = [(node, (node + 1) % 600, (node // 50,)) for node in range(600)]
        self.assert_ring_or_tuple((600, ways, 12), [True] * 600, [0, 1, 299, 599])
        self.assert_ring_or_tuple(cut_marks((600, ways, 12), 0), [True] * 600, [0, 599])
        none_takes_seven = [(begin, end, () if taken == (7,) else taken) for begin, end, taken in ways]
        self.assert_ring_or_tuple((600, none_takes_seven, 12), [False] * 600, [0, 300])

    def test_marks_far_from_one_another(self):
        # There and back on one line, the marks at its two ends by turns: the ring has to go far for each.
        ways = [(node, node + 1, ()) for node in range(599)] + [(node + 1, node, ()) for node in range(599)]
        ways += [(0 if mark % 2 else 599, 0 if mark % 2 else 599, (mark,)) for mark in range(12)]
        self.assert_ring_or_tuple((600, ways, 12), [True] * 600, [0, 1, 300, 599])
        self.assert_ring_or_tuple((600, ways[:-1], 12), [False] * 600, [0, 599])

    def test_one_line_without_a_way_back(self):
        ways = [(node, node + 1, (0,)) for node in range(599)]
        self.assert_ring_or_tuple((600, ways, 1), [False] * 600, [0, 599])
        self.assert_ring_or_tuple(cut_marks((600, ways, 1), 0), [False] * 600, [0, 599])
        self.assert_ring_or_tuple((600, ways + [(599, 599, (0,))], 1), [True] * 600, [0, 300, 599])
        self.assertEqual(ring_from((600, ways + [(599, 599, (0,))], 1), 0), (list(range(599)), [599]))
        backward = [(node + 1, node, ()) for node in range(599)]
        self.assert_ring_or_tuple((600, backward + [(300, 300, ())], 0), [node >= 300 for node in range(600)],
                                  [0, 299, 300, 599])

    def test_six_thousand_ways_drawn(self):
        source = random.Random(203)
        for often in [0, 1, 30]:
            net = drawn_net(source, 600, 6000, 12, often)
            fair = nodes_with_fair_ring(net)
            self.assert_ring_or_tuple(net, fair, range(0, 600, 37))

    def test_six_thousand_ways_down_many_knots(self):
        # Thirty knots of twenty nodes, each lacking one of the marks, with ways to later knots alone.
        source = random.Random(204)
        ways = []
        for number in range(6000):
            knot = source.randrange(30)
            later = knot if source.random() < 0.7 else source.randint(knot, 29)
            taken = tuple(mark for mark in range(12) if mark != knot % 12 and source.random() < 0.5)
            ways.append((20 * knot + source.randrange(20), 20 * later + source.randrange(20),
                         taken if later == knot else tuple(range(12))))
        self.assert_ring_or_tuple((600, ways, 12), [False] * 600, range(0, 600, 37))
        fair_from = ways[:-1] + [(20 * 17, 20 * 17 + 3, (17 % 12,))]
        self.assert_ring_or_tuple((600, fair_from, 12), nodes_with_fair_ring((600, fair_from, 12)), range(0, 600, 37))

    def test_six_thousand_ways_alike(self):
        self.assert_ring_or_tuple((600, [(0, 599, (3,))] * 6000, 12), [False] * 600, [0, 1, 599])
        ways = [(0, 599, (3,))] * 3000 + [(599, 0, ())] * 3000
        self.assert_ring_or_tuple((600, ways, 4), [False] * 600, [0, 1, 599])
        self.assert_ring_or_tuple((600, [(0, 599, (0,))] * 3000 + [(599, 0, ())] * 3000, 1),
                                  [node in (0, 599) for node in range(600)], [0, 1, 599])

    def test_every_node_of_a_great_net(self):
        source = random.Random(205)
        net = drawn_net(source, 600, 900, 3, 40)
        fair = nodes_with_fair_ring(net)
        self.assertTrue(any(fair) and not all(fair))
        self.assert_ring_or_tuple(net, fair)


if __name__ == "__main__":
    unittest.main()
