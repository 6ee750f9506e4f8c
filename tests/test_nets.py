import random
import unittest

from helper import Case, cut_marks, drawn_net, is_kept_paper, nodes_with_fair_ring, walks_fairly

from lassoscribe.nets import goes, is_paper

FAR = 10 ** 60 - 1

# 0 -> 1 -> 2 -> 0, with a way on from 2 to 3 and from 3 to itself; mark 0 within the first round alone.
ROUND = (4, [(0, 1, (0,)), (1, 2, ()), (2, 0, (1,)), (2, 3, (0, 1)), (3, 3, (1,)), (0, 1, ())], 2)


class GoesTest(Case):
    def test_fair_rings(self):
        for node, stem, ring in [
            (0, [], [0, 1, 2]), (1, [], [1, 2, 0]), (1, [1, 2], [0, 1, 2]), (0, [5, 1, 2], [0, 1, 2]), (2, [2], [0, 1, 2]),
            (0, [], [0, 1, 2, 0, 1, 2]), (0, [], [5, 1, 2, 0, 1, 2]), (0, [0, 1, 2, 5], [1, 2, 0]),
        ]:
            with self.subTest(node=node, stem=stem, ring=ring):
                self.assert_told(True, goes, ROUND, node, stem, ring)

    def test_numbers_that_are_no_ways(self):
        for wrong in [-1, -6, -7, 6, 7, 100, FAR, -FAR]:
            for stem, ring in [([], [wrong]), ([], [0, 1, wrong]), ([], [wrong, 1, 2]), ([wrong], [0, 1, 2]),
                               ([0, 1, wrong], [0, 1, 2]), ([], [0, wrong, 2]), ([], [0, 1, 2, wrong])]:
                with self.subTest(stem=stem, ring=ring):
                    self.assert_told(False, goes, ROUND, 0, stem, ring)

    def test_a_number_below_nought_does_not_count_from_the_end(self):
        net = (1, [(0, 0, (0,))], 1)
        self.assert_told(True, goes, net, 0, [0], [0])
        self.assert_told(False, goes, net, 0, [], [-1])
        self.assert_told(False, goes, net, 0, [-1], [0])
        self.assert_told(False, goes, net, 0, [], [0, -1])

    def test_ways_that_do_not_lead_on(self):
        for node, stem, ring in [
            (1, [], [0, 1, 2]), (3, [], [0, 1, 2]), (0, [1], [2, 0, 1]), (0, [0], [0, 1, 2]), (0, [], [0, 2, 1]),
            (0, [0, 2], [0, 1, 2]), (2, [3], [0, 1, 2]), (0, [1, 2], [0, 1, 2]), (0, [], [0, 1, 4]),
        ]:
            with self.subTest(node=node, stem=stem, ring=ring):
                self.assert_told(False, goes, ROUND, node, stem, ring)

    def test_an_empty_ring(self):
        for stem in [[], [0], [0, 1, 2]]:
            self.assert_told(False, goes, ROUND, 0, stem, [])
            self.assert_told(False, goes, cut_marks(ROUND, 0), 0, stem, [])

    def test_a_ring_that_does_not_come_back(self):
        no_marks = cut_marks(ROUND, 0)
        for node, stem, ring in [(0, [], [0]), (0, [], [0, 1]), (0, [], [0, 1, 3]), (0, [0], [1, 2]), (2, [], [3, 4]),
                                 (0, [], [0, 1, 2, 0])]:
            with self.subTest(node=node, stem=stem, ring=ring):
                self.assert_told(False, goes, ROUND, node, stem, ring)
                self.assert_told(False, goes, no_marks, node, stem, ring)
        self.assert_told(True, goes, no_marks, 2, [3], [4])

    def test_a_mark_that_is_not_taken_on_the_ring(self):
        self.assert_told(False, goes, ROUND, 0, [], [5, 1, 2])
        self.assert_told(False, goes, ROUND, 0, [0, 1, 2], [5, 1, 2])
        self.assert_told(False, goes, ROUND, 2, [3], [4])
        self.assert_told(False, goes, ROUND, 0, [0, 1, 3], [4])
        self.assert_told(False, goes, (4, ROUND[1], 3), 0, [], [0, 1, 2])
        self.assert_told(True, goes, cut_marks(ROUND, 1), 0, [], [0, 1, 2])

    def test_a_net_without_ways(self):
        for stem, ring in [([], []), ([], [0]), ([0], [0]), ([], [-1])]:
            self.assert_told(False, goes, (1, [], 0), 0, stem, ring)

    def test_twelve_marks(self):
        net = (12, [(node, (node + 1) % 12, (node,)) for node in range(12)], 12)
        ring = list(range(12))
        self.assert_told(True, goes, net, 0, [], ring)
        self.assert_told(True, goes, net, 5, [], ring[5:] + ring[:5])
        for left_out in range(12):
            ways = [(begin, end, () if number == left_out else taken)
                    for number, (begin, end, taken) in enumerate(net[1])]
            self.assert_told(False, goes, (12, ways, 12), 0, [], ring)

    def test_drawn_lists_of_ways(self):
        source = random.Random(181)
        found = 0
        for _ in range(3000):
            net = drawn_net(source, source.randint(1, 3), source.randint(1, 6), source.randint(0, 2), 60)
            node = source.randrange(net[0])
            stem = [source.randint(-1, len(net[1])) for _ in range(source.randint(0, 2))]
            ring = [source.randint(-1, len(net[1])) for _ in range(source.randint(0, 3))]
            expected = walks_fairly(net, node, stem, ring)
            found += expected
            self.assert_told(expected, goes, net, node, stem, ring)
        self.assertGreater(found, 50)


# 0 and 1 go round without mark 1, then 2 goes on to 3, from which no way leads.
STEPS = (4, [(0, 1, (0,)), (1, 0, ()), (1, 2, (0, 1)), (2, 3, ()), (0, 3, (1,))], 2)
STEPS_PAPER = [(2, 1), (2, 1), (1, None), (0, None)]


def with_row(rows, node, row):
    return rows[:node] + [row] + rows[node + 1:]


class IsPaperTest(Case):
    def test_papers(self):
        for starts in [[], [0], [3], [0, 1, 2, 3], [2, 2, 0]]:
            self.assert_told(True, is_paper, STEPS, starts, STEPS_PAPER)
        self.assert_told(True, is_paper, STEPS, [], [None] * 4)
        self.assert_told(True, is_paper, STEPS, [3], [None, None, None, (7, 0)])
        self.assert_told(True, is_paper, STEPS, [2], [None, None, (7, 0), (0, None)])
        self.assert_told(True, is_paper, STEPS, [2], [None, None, (7, 0), (7, 0)])
        self.assert_told(True, is_paper, STEPS, [2], [None, None, (7, 1), (7, 1)])
        self.assert_told(True, is_paper, STEPS, [0], [(9, 1), (9, 1), (5, 0), (3, 1)])

    def test_a_list_of_another_length(self):
        for rows in [[], STEPS_PAPER[:3], STEPS_PAPER[1:], STEPS_PAPER + [None], STEPS_PAPER + [(0, None)],
                     STEPS_PAPER * 2, [None] * 3, [None] * 5, [None] * 700]:
            self.assert_told(False, is_paper, STEPS, [], rows)
            self.assert_told(False, is_paper, STEPS, [0], rows)

    def test_a_start_without_a_tuple(self):
        rows = [None, None, (1, None), (0, None)]
        self.assert_told(True, is_paper, STEPS, [2, 3], rows)
        for starts in [[0], [1], [2, 0], [0, 2], [2, 3, 1]]:
            self.assert_told(False, is_paper, STEPS, starts, rows)

    def test_a_way_to_a_node_without_a_tuple(self):
        for node in [1, 2, 3]:
            self.assert_told(False, is_paper, STEPS, [0], with_row(STEPS_PAPER, node, None))
            self.assert_told(False, is_paper, STEPS, [], with_row(STEPS_PAPER, node, None))

    def test_a_way_to_a_greater_rank(self):
        self.assert_told(False, is_paper, STEPS, [], [(2, 1), (3, 1), (1, None), (0, None)])
        self.assert_told(False, is_paper, STEPS, [], [(2, 1), (2, 1), (3, None), (0, None)])
        self.assert_told(False, is_paper, STEPS, [], [(2, 1), (2, 1), (1, None), (2, None)])
        self.assert_told(False, is_paper, STEPS, [], [None, None, (0, 1), (1, 1)])
        self.assert_told(False, is_paper, STEPS, [], [None, None, (FAR - 1, 1), (FAR, 1)])

    def test_the_same_rank(self):
        net = (2, [(0, 1, (0,))], 3)
        for here, there, expected in [(1, 1, True), (2, 2, True), (1, 2, False), (2, 1, False), (None, None, False),
                                      (1, None, False), (None, 1, False), (0, 0, False), (0, 1, False), (1, 0, False)]:
            with self.subTest(here=here, there=there):
                self.assert_told(expected, is_paper, net, [0], [(5, here), (5, there)])
                self.assert_told(True, is_paper, net, [0], [(6, here), (5, there)])
                self.assert_told(False, is_paper, net, [0], [(5, here), (6, there)])

    def test_a_way_from_a_node_to_itself(self):
        net = (1, [(0, 0, (1,))], 2)
        self.assert_told(True, is_paper, net, [0], [(0, 0)])
        self.assert_told(False, is_paper, net, [0], [(0, 1)])
        self.assert_told(False, is_paper, net, [0], [(0, None)])
        self.assert_told(True, is_paper, net, [], [None])

    def test_a_way_from_a_node_without_a_tuple_may_lead_anywhere(self):
        net = (2, [(0, 1, ()), (0, 0, ())], 1)
        self.assert_told(True, is_paper, net, [1], [None, (0, None)])
        self.assert_told(True, is_paper, net, [], [None, None])

    def test_each_of_two_ways_alike_counts(self):
        net = (2, [(0, 1, ()), (0, 1, (0,))], 1)
        self.assert_told(False, is_paper, net, [0], [(1, 0), (1, 0)])
        self.assert_told(True, is_paper, net, [0], [(2, 0), (1, 0)])
        self.assert_told(False, is_paper, (2, net[1][::-1], 1), [0], [(1, 0), (1, 0)])

    def test_a_rank_below_nought(self):
        for rank in [-1, -2, -FAR]:
            self.assert_told(False, is_paper, STEPS, [0], with_row(STEPS_PAPER, 3, (rank, None)))
            self.assert_told(False, is_paper, (1, [], 0), [], [(rank, None)])

    def test_a_lack_that_is_no_marks_number(self):
        for lack in [-1, -2, 2, 3, FAR, -FAR]:
            self.assert_told(False, is_paper, STEPS, [0], with_row(STEPS_PAPER, 3, (0, lack)))
            self.assert_told(False, is_paper, STEPS, [0], [(2, lack), (2, lack), (1, None), (0, None)])
            self.assert_told(False, is_paper, STEPS, [], [None, None, None, (0, lack)])
        self.assert_told(False, is_paper, (1, [], 0), [], [(0, 0)])
        self.assert_told(True, is_paper, (1, [], 1), [], [(0, 0)])
        self.assert_told(True, is_paper, (1, [], 12), [], [(0, 11)])
        self.assert_told(False, is_paper, (1, [], 12), [], [(0, 12)])

    def test_ranks_of_sixty_figures(self):
        self.assert_told(True, is_paper, STEPS, [0], [(FAR, 1), (FAR, 1), (FAR - 1, None), (FAR - 2, None)])
        self.assert_told(False, is_paper, STEPS, [0], [(FAR, 1), (FAR - 1, 1), (FAR - 2, None), (0, None)])
        self.assert_told(False, is_paper, STEPS, [0], [(FAR, 1), (FAR, 1), (FAR - 2, None), (FAR - 1, None)])

    def test_no_starts_and_no_ways(self):
        self.assert_told(True, is_paper, (3, [], 0), [], [None, None, None])
        self.assert_told(True, is_paper, (3, [], 0), [0, 1, 2], [(0, None), (5, None), (0, None)])
        self.assert_told(True, is_paper, (3, [], 2), [1], [None, (0, 1), None])
        self.assert_told(False, is_paper, (3, [], 2), [0], [None, (0, 1), None])

    def test_drawn_rows(self):
        source = random.Random(191)
        found = 0
        for _ in range(6000):
            net = drawn_net(source, source.randint(1, 3), source.randint(0, 4), source.randint(0, 2), 40)
            rows = [source.choice([None, (source.randint(0, 2), source.choice([None, 0, 1]))])
                    for _ in range(net[0])]
            starts = [source.randrange(net[0]) for _ in range(source.randint(0, 2))]
            expected = is_kept_paper(net, starts, rows)
            found += expected
            self.assert_told(expected, is_paper, net, starts, rows)
        self.assertGreater(found, 300)

    def test_no_fair_ring_goes_from_a_node_with_a_tuple(self):
        source = random.Random(192)
        found = 0
        for _ in range(6000):
            net = drawn_net(source, 3, source.randint(1, 5), source.randint(0, 2), 30)
            rows = [(source.randint(0, 1), source.choice([None, 0, 1])) if source.random() < 0.8 else None
                    for _ in range(3)]
            if is_paper(net, [], rows):
                fair = nodes_with_fair_ring(net)
                found += any(fair)
                self.assertFalse(any(fair[node] for node in range(3) if rows[node] is not None))
        self.assertGreater(found, 50)

    def test_six_hundred_nodes_and_six_thousand_ways(self):
        ways = [(node, max(0, node - step), ()) for node in range(600) for step in range(10)]
        rows = [(node, 0) for node in range(600)]
        self.assertEqual(len(ways), 6000)
        self.assert_told(True, is_paper, (600, ways, 12), list(range(600)), rows)
        self.assert_told(False, is_paper, (600, ways, 12), [599], with_row(rows, 300, None))
        self.assert_told(False, is_paper, (600, ways[:-1] + [(599, 599, (0,))], 12), [599], rows)


if __name__ == "__main__":
    unittest.main()
