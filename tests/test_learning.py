from tests.helpers import (
    Case, all_nests, chain_nest, deep_nest, plain_stands, round_nest, some_nests, spoil,
)
from tiedrings.errors import BadDeed, BadSize, NoWorld
from tiedrings.learning import Learner
from tiedrings.nestcards import cards_of
from tiedrings.nests import Nest
from tiedrings.nesttext import parse_nest
from tiedrings.tiers import Tier

NEST = parse_nest("((0>1 1>0)>2 2>1)>- 3>2")


class LearningTest(Case):
    def learn(self, nest):
        """Tells the looks of the nest, and compares what is asked with a tier."""
        book = cards_of(nest)
        learner, tier = Learner(nest.size), Tier(nest.size)
        looks = 0
        while tier.waiting:
            node = tier.waiting[0]
            self.assertIs(learner.done, False)
            self.assertEqual(learner.asked, looks)
            self.assertEqual(learner.ask(), list(node))
            self.assertEqual(learner.ask(), list(node))
            self.refuses(BadDeed, {}, learner.found)
            self.assertIsNone(learner.tell(plain_stands(book, learner.ask())))
            tier.put(node, nest.gate_of(node))
            looks += 1
        self.assertIs(learner.done, True)
        self.assertIsNone(learner.ask())
        self.assertEqual(learner.found().nodes, nest.nodes)
        self.assertEqual(learner.asked, len(nest.nodes))
        self.assertLessEqual(looks, Learner.most(nest.size))
        return learner

    def test_all_small_nests(self):
        for size in (1, 2, 3, 4):
            for nest in all_nests(size):
                self.learn(nest)

    def test_sixteen_places(self):
        for nest in some_nests(16, 10, 1) + [deep_nest(16), round_nest(16), chain_nest(16)]:
            self.learn(nest)
        self.assertEqual(self.learn(deep_nest(16)).asked, 31)
        self.assertEqual(self.learn(Nest.loose(16)).asked, 16)

    def test_order_of_the_looks(self):
        learner = Learner(4)
        asked = []
        while not learner.done:
            asked.append(learner.ask())
            learner.tell(plain_stands(cards_of(NEST), asked[-1]))
        self.assertEqual(asked, [[0], [1], [2], [3], [0, 1], [0, 1, 2]])

    def test_wrong_stands(self):
        learner = Learner(4)
        for stands in (
            [], [1, 1, 2], [1, 1, 2, 3, 3], [0, 1, 2, 3], [1, 1, 3, 3], [1, 0, 2, 3], [4, 1, 2, 3],
            [-2, 1, 2, 3], [1, 1, 2, -1],
        ):
            self.refuses(NoWorld, {}, learner.tell, stands)
            self.assertEqual((learner.ask(), learner.asked, learner.done), ([0], 0, False))
        for stands in ([1, 1, 2, 3], [0, 0, 2, 3], [0, 1, 1, 3], [0, 1, 2, 2]):
            learner.tell(stands)
        # Now a ring is asked for: its places must be seen together, and outside of it.
        for stands in (
            [2, 3, 2, 3], [2, -1, 2, 3], [1, 1, 2, 3], [0, 0, 2, 3], [0, 1, 2, 3], [2, 2, -1, 3],
            [4, 4, 2, 3], [-1, 2, 2, 3],
        ):
            self.refuses(NoWorld, {}, learner.tell, stands)
            self.assertEqual((learner.ask(), learner.asked), ([0, 1], 4))
        learner.tell([2, 2, 2, 3])
        learner.tell([-1, -1, -1, 3])
        self.assertEqual(learner.found().nodes, NEST.nodes)

    def test_after_the_nest_is_found(self):
        learner = self.learn(NEST)
        for stands in ([], [0, 1, 2, 3], [-1, -1, -1, 3]):
            self.refuses(BadDeed, {}, learner.tell, stands)
        self.assertEqual((learner.asked, learner.done, learner.ask()), (6, True, None))

    def test_a_learner_may_be_told_home_alone(self):
        learner = Learner(1)
        self.refuses(NoWorld, {}, learner.tell, [0])
        learner.tell([-1])
        self.assertEqual(learner.found().nodes, Nest.loose(1).nodes)
        self.assertEqual(Learner.most(1), 1)
        self.assertEqual(Learner.most(16), 31)

    def test_refuses(self):
        for size in (0, 17, -1):
            self.refuses(BadSize, {"size": size}, Learner, size)
            self.refuses(BadSize, {"size": size}, Learner.most, size)

    def test_lists_are_copied(self):
        learner = Learner(2)
        spoil(learner.ask())
        self.assertEqual(learner.ask(), [0])
        stands = [1, 1]
        learner.tell(stands)
        self.assertEqual(stands, [1, 1])
        spoil(stands)
        learner.tell([0, -1])
        self.assertEqual(learner.found().nodes, [((0,), 1), ((1,), -1)])
