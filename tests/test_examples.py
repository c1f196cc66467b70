"""The examples that the interface gives, all of them.

>>> from toldwhensure.plans import window_of
>>> window_of((10, (("a", 0, 5, 0),)), -1)
-1

>>> from toldwhensure.letters import write_bag
>>> write_bag([("read", "a", 2, 1, 17, None), ("clock", "a", -1, 0)])
'read a slot 2 version 1 at 17 is void\\nclock a from -1 to 0\\n'

>>> from toldwhensure.plainly import value_of
>>> value_of(("rank", 1, 2), (2, 3, 3, 9))
3

>>> from toldwhensure.plainly import plain_value
>>> plan = (10, (("a", 0, 5, 1),))
>>> history = (("a", 1, ((3, (4,)), (8, (2, None)), (8, (1, 5)), (9, (3,)))),)
>>> plain_value(plan, history, ("sum",), ("a",), 0)
9

>>> from toldwhensure.segments import inside, runs_of, segments_of
>>> plan = (10, (("a", 0, 5, 0),))
>>> letters = [("read", "a", 1, 0, 3, 4), ("read", "a", 4, 1, 12, None), ("close", "a", 4, 15, 6)]
>>> segments_of(plan, letters, "a")
((1, 4, 1), (5, None, None))
>>> runs_of(plan, letters, "a")
((2, 3, 3, 12),)
>>> inside(plan, letters, "a", 0, 0)
((((4,), 0, 0, 2, 1), ((), 0, 0, 0, None)), False)

>>> from toldwhensure.telling import told
>>> told(plan, letters, ("sum",), ("a",), 0)
(0, 15)
>>> letters = [("read", "a", 1, 0, 3, 4), ("close", "a", 0, 0, 0), ("close", "a", 1, 10, 1)]
>>> told(plan, letters, ("rank", 1, 2), ("a",), 0)
(False, 4, 4)

>>> from toldwhensure.balances import told_balance
>>> plan = (10, (("a", 0, 5, 0), ("b", 0, 5, 0)))
>>> letters = [("read", "a", 1, 0, 3, 4), ("close", "a", 1, 10, 1), ("close", "b", 2, 10, 2), ("close", "b", 0, 0, 0)]
>>> told_balance(plan, letters, ((1, ("sum",), ("a",), 0), (-1, ("sum",), ("b",), 0)))
(-6, 4)
"""

import doctest
import sys
import unittest


class Examples(unittest.TestCase):
    def test_examples(self):
        result = doctest.testmod(sys.modules[__name__])
        self.assertEqual(result.failed, 0)
        self.assertEqual(result.attempted, 24)
