"""Trees: their ties, what is tied, ways, and what is beyond."""

import unittest
from itertools import combinations

from sametolls.trees import Tree, beyond, tied, ways
from tests.support import (EXAMPLE, Dice, all_odd, error_of, near_posts, path, row_tree, some_tree, star_tree)

ROWS = tuple((post, post + 1) for post in range(23))


def some_trees():
    """Rows, stars and others, of one to 24 posts."""
    dice = Dice(12)
    found = [Tree(())]
    for posts in (2, 3, 5, 24):
        found += [row_tree(posts), star_tree(posts), star_tree(posts, posts - 1), star_tree(posts, posts // 2)]
        found += [some_tree(dice, posts) for _ in range(3)]
    return found


class Ties(unittest.TestCase):
    def bad(self, ties, part):
        self.assertEqual(error_of(Tree, ties), ("BadTree", {"part": part}))

    def test_no_tuple_of_at_most_23(self):
        for ties in all_odd() + [[], [(0, 1)], {}, 0, "ties", ROWS + ((23, 24),), ROWS + (None,), ((0, 1),) * 24,
                                 (None,) * 24]:
            if not isinstance(ties, tuple) or len(ties) > 23:
                self.bad(ties, "ties")

    def test_23_ties(self):
        tree = Tree(ROWS)
        self.assertEqual((tree.ties, tree.posts), (ROWS, 24))
        self.assertEqual(star_tree(24, 5).posts, 24)
        self.bad(ROWS[:22] + ((22, 22),), 22)

    def test_the_first_that_is_no_pair(self):
        bad = all_odd() + [(), (0,), (0, 1, 2), [0, 1], (0, "1"), (True, 1), (0, True), (False, 1), (0, None),
                           (-1, 1), (0, -1), (0, 4), (4, 0), (3, 4), (1, 1), (1, 0), (2, 1), ((0,), (1,)),
                           (0, (1,)), (0, [1]), ([0], 1), {0: 1}, "01", b"\x00\x01", 1, (0, 10 ** 59)]
        for thing in bad:
            self.bad((thing, None, None), 0)
            self.bad(((0, 1), thing, None), 1)
            self.bad(((0, 1), (0, 2), thing), 2)

    def test_the_first_that_is_not_greater(self):
        self.bad(((0, 1), (0, 1), (0, 3)), 1)
        self.bad(((0, 2), (0, 1), (9, 9)), 1)
        self.bad(((1, 2), (0, 3), (2, 3)), 1)
        self.bad(((0, 1), (1, 2), (0, 3)), 2)
        self.bad(((0, 1), (1, 3), (1, 2)), 2)

    def test_posts_are_one_more_than_ties(self):
        self.bad(((0, 2),), 0)
        self.bad(((0, 1), (1, 3)), 1)
        self.assertIsNone(error_of(Tree, ((0, 1), (1, 2))))

    def test_pieces(self):
        self.bad(((0, 1), (0, 2), (1, 2)), "pieces")
        self.bad(((1, 2), (1, 3), (2, 3)), "pieces")
        self.bad(((0, 1), (2, 3), (2, 4), (3, 4)), "pieces")
        self.bad(((0, 2), (1, 3), (1, 4), (3, 4)), "pieces")

    def test_all_ties_of_few_posts(self):
        for posts in range(1, 6):
            pairs = list(combinations(range(posts), 2))
            for ties in combinations(pairs, posts - 1):
                piece = list(range(posts))
                for one, other in ties:
                    piece = [piece[one] if name == piece[other] else name for name in piece]
                if len(set(piece)) == 1:
                    tree = Tree(ties)
                    self.assertEqual((tree.ties, tree.posts), (ties, posts))
                else:
                    self.bad(ties, "pieces")

    def test_no_ties_at_all(self):
        tree = Tree(())
        self.assertEqual((tree.ties, tree.posts), ((), 1))
        self.assertEqual(ways(tree), [])
        self.assertEqual(tied(tree, 0), ())


class Equality(unittest.TestCase):
    def test_equal_just_if_ties_are(self):
        trees = some_trees()
        for tree in trees:
            for other in trees:
                self.assertIs(tree == other, tree.ties == other.ties)
                self.assertIs(tree != other, tree.ties != other.ties)
            self.assertEqual(tree, Tree(tuple(tree.ties)))

    def test_equal_to_no_other_kind(self):
        class Twin:
            ties = ROWS
            posts = 24

        for thing in all_odd() + [ROWS, list(ROWS), (), [], EXAMPLE, Twin()]:
            self.assertIs(Tree(ROWS) == thing, False)
            self.assertIs(Tree(ROWS) != thing, True)
        for thing in ((), [], None, 0, 1, EXAMPLE):
            self.assertIs(Tree(()) == thing, False)


class Posts(unittest.TestCase):
    def test_tied(self):
        for tree in some_trees():
            for post in range(tree.posts):
                found = tied(tree, post)
                self.assertIsInstance(found, tuple)
                self.assertEqual(found, tuple(other for other in range(tree.posts)
                                              if (post, other) in tree.ties or (other, post) in tree.ties))
        self.assertEqual(tied(star_tree(5, 2), 2), (0, 1, 3, 4))
        self.assertEqual(tied(row_tree(4), 1), (0, 2))

    def test_no_post(self):
        for tree in some_trees():
            for thing in all_odd() + [tree.posts, tree.posts + 1, (0,), [0], "0", {0: 0}]:
                self.assertEqual(error_of(tied, tree, thing), ("NoPost", {}))
        self.assertEqual(error_of(tied, Tree(()), 1), ("NoPost", {}))


class Ways(unittest.TestCase):
    def test_ways(self):
        for tree in some_trees():
            found = ways(tree)
            self.assertIsInstance(found, list)
            self.assertEqual(found, sorted(list(tree.ties) + [(other, one) for one, other in tree.ties]))
        self.assertEqual(ways(row_tree(3)), [(0, 1), (1, 0), (1, 2), (2, 1)])

    def test_lists_are_new(self):
        tree = row_tree(3)
        ways(tree).clear()
        first = ways(tree)
        first.append((9, 9))
        self.assertEqual(ways(tree), [(0, 1), (1, 0), (1, 2), (2, 1)])
        self.assertEqual(tree.ties, ((0, 1), (1, 2)))

    def test_beyond(self):
        for tree in some_trees():
            for way in ways(tree):
                found = beyond(tree, way)
                self.assertIsInstance(found, tuple)
                near = near_posts(tree, way)
                self.assertEqual(found, tuple(post for post in range(tree.posts) if post not in near))
                self.assertEqual(tuple(sorted(found + beyond(tree, (way[1], way[0])))), tuple(range(tree.posts)))

    def test_known_ones(self):
        self.assertEqual(beyond(row_tree(3), (1, 0)), (0,))
        self.assertEqual(beyond(row_tree(3), (0, 1)), (1, 2))
        self.assertEqual(beyond(star_tree(24, 7), (3, 7)), tuple(post for post in range(24) if post != 3))
        self.assertEqual(beyond(star_tree(24, 7), (7, 3)), (3,))
        self.assertEqual(beyond(Tree(((0, 3), (1, 3), (1, 4), (2, 4))), (3, 1)), (1, 2, 4))
        self.assertEqual(path(row_tree(4), 3, 0), [3, 2, 1, 0])

    def test_no_way(self):
        for tree in some_trees():
            others = [(one, other) for one in range(-1, tree.posts + 1) for other in range(-1, tree.posts + 1)
                      if (one, other) not in ways(tree)]
            for thing in all_odd() + others[:40] + [(), (0,), (0, 1, 2), [0, 1], (True, 0), (0, True), (False, 1),
                                                    (1, False), ("0", "1"), (0, None), (0, [1]), ((0, 1),),
                                                    ((0, 1), (1, 0)), {0: 1}, (0, 10 ** 59)]:
                self.assertEqual(error_of(beyond, tree, thing), ("NoWay", {}))


if __name__ == "__main__":
    unittest.main()
