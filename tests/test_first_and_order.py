"""Promises 22 to 26: first, before, behind, order, why."""

import unittest

from tests.helpers import TableCase

TOO_BIG = 10 ** 18


class FirstCall(TableCase):
    def test_no_kinds(self):
        self.tells(0, "first")

    def test_nothing_raised(self):
        self.kind(delay=1)
        self.do("on", 0)
        self.tells(0, "first")

    def test_one_more_than_its_number(self):
        for k in range(32):
            self.kind()
        for k in (0, 31, 7):
            self.do("on", k)
            self.tells(k + 1, "first")
            self.do("off", k)
            self.tells(0, "first")

    def test_least_number_of_a_sense_that_raises_many(self):
        for k in range(4):
            self.kind()
        self.do("sense", 0b1110)
        self.tells(2, "first")

    def test_gone_by_itself_while_others_are_raised(self):
        for k in range(3):
            self.kind(latching=k % 2)
        self.do("on", 2)
        self.do("on", 0)
        self.do("off", 2)
        self.tells(3, "first")
        self.do("on", 1)
        self.do("off", 0)
        self.tells(3, "first")

    def test_reset_while_others_are_raised(self):
        for k in range(3):
            self.kind(latching=1)
        self.do("on", 1)
        self.do("on", 0)
        self.do("sense", 0)
        self.do("ackTo", 3)
        self.do("reset", 1)
        self.tells(2, "first")
        self.do("on", 2)
        self.tells(2, "first")
        self.do("reset", 0)
        self.tells(2, "first")
        self.do("off", 2)
        self.do("ack", 2)
        self.do("reset", 2)
        self.tells(0, "first")

    def test_stays_when_it_is_raised_again(self):
        for k in range(2):
            self.kind()
        self.do("on", 0)
        self.do("on", 1)
        self.do("off", 0)
        self.do("on", 0)
        self.do("off", 1)
        self.tells(1, "first")

    def test_none_behind_a_reset_of_all(self):
        for k in range(2):
            self.kind(latching=1)
        self.do("sense", 0b11)
        self.do("sense", 0)
        self.do("ackTo", 3)
        self.do("resetAll")
        self.tells(0, "first")
        self.do("on", 1)
        self.tells(2, "first")

    def test_reset_of_some_leaves_it(self):
        for k in range(2):
            self.kind(latching=1)
        self.do("sense", 0b11)
        self.do("sense", 0b10)
        self.do("ackTo", 3)
        self.assertEqual(self.do("resetAll"), [1, 0])
        self.tells(1, "first")

    def test_stays_behind_a_renew(self):
        for k in range(2):
            self.kind()
        self.do("on", 1)
        self.do("on", 0)
        self.do("off", 1)
        self.do("renew")
        self.tells(2, "first")


class Before(TableCase):
    def test_out_of_range(self):
        self.refused(-1, "before", 0, 0)
        self.kind()
        self.kind()
        for wrong in (-1, 2, TOO_BIG, -TOO_BIG):
            self.refused(-1, "before", wrong, 1)
            self.refused(-1, "before", 1, wrong)
            self.refused(-1, "before", wrong, wrong)
        self.tells(0, "before", 0, 1)

    def test_link_and_its_other_direction(self):
        for k in range(3):
            self.kind()
        self.do("link", 2, 0)
        self.tells(1, "before", 2, 0)
        self.tells(0, "before", 0, 2)
        self.tells(0, "before", 1, 0)

    def test_not_before_itself(self):
        self.kind()
        self.kind()
        self.do("link", 0, 1)
        self.tells(0, "before", 0, 0)
        self.tells(0, "before", 1, 1)

    def test_over_kinds_that_are_not_raised(self):
        for k in range(4):
            self.kind()
        for a, b in ((0, 1), (1, 2), (2, 3)):
            self.do("link", a, b)
        self.tells(1, "before", 0, 2)
        self.tells(1, "before", 0, 3)
        self.tells(0, "before", 3, 0)
        self.do("on", 0)
        self.do("on", 3)
        self.tells(1, "before", 0, 3)
        self.do("unlink", 1, 2)
        self.tells(0, "before", 0, 3)
        self.tells(1, "before", 0, 1)
        self.tells(1, "before", 2, 3)

    def test_two_that_come_before_the_same(self):
        for k in range(3):
            self.kind()
        self.do("link", 0, 2)
        self.do("link", 1, 2)
        self.tells(0, "before", 0, 1)
        self.tells(0, "before", 1, 0)

    def test_all_32_kinds(self):
        for k in range(32):
            self.kind()
        for k in range(31):
            self.do("link", k + 1, k)
        self.tells(1, "before", 31, 0)
        self.tells(0, "before", 0, 31)


class Behind(TableCase):
    def test_out_of_range(self):
        self.refused(-1, "behind", 0)
        self.kind()
        for wrong in (-1, 1, TOO_BIG, -TOO_BIG):
            self.refused(-1, "behind", wrong)
        self.tells([0], "behind", 0)

    def test_each_once_and_least_first(self):
        for k in range(6):
            self.kind()
        for a, b in ((5, 3), (5, 1), (3, 0), (1, 0), (4, 3), (0, 2)):
            self.do("link", a, b)
        self.tells([4, 1, 3, 4, 5], "behind", 0)
        self.tells([1, 5], "behind", 1)
        self.tells([5, 0, 1, 3, 4, 5], "behind", 2)
        self.tells([2, 4, 5], "behind", 3)
        self.tells([0], "behind", 4)
        self.do("unlink", 3, 0)
        self.tells([3, 0, 1, 5], "behind", 2)

    def test_whatever_is_raised(self):
        for k in range(3):
            self.kind()
        self.do("link", 2, 1)
        self.do("link", 1, 0)
        for m in (0b000, 0b101, 0b111):
            self.do("sense", m)
            self.tells([2, 1, 2], "behind", 0)

    def test_all_32_kinds(self):
        for k in range(32):
            self.kind()
        for k in range(31):
            self.do("link", k + 1, k)
        self.tells([31] + list(range(1, 32)), "behind", 0)
        self.tells([1, 31], "behind", 30)
        self.tells([0], "behind", 31)


class Order(TableCase):
    def kinds(self, many):
        for k in range(many):
            self.kind(latching=1)

    def test_no_kinds(self):
        self.tells([0], "order")

    def test_nothing_raised(self):
        self.kinds(2)
        self.do("link", 0, 1)
        self.tells([0], "order")

    def test_by_number_without_links(self):
        self.kinds(4)
        for k in (3, 0, 2):
            self.do("on", k)
        self.tells([3, 0, 2, 3], "order")

    def test_least_of_those_that_are_free(self):
        self.kinds(5)
        self.do("link", 2, 0)
        self.do("link", 4, 3)
        self.do("link", 3, 1)
        self.do("sense", 0b11111)
        self.tells([5, 2, 0, 4, 3, 1], "order")

    def test_over_kinds_that_are_not_raised(self):
        self.kinds(4)
        self.do("link", 3, 1)
        self.do("link", 1, 0)
        self.do("sense", 0b1101)
        self.tells([3, 2, 3, 0], "order")
        self.do("unlink", 3, 1)
        self.tells([3, 0, 2, 3], "order")

    def test_those_that_are_not_raised_hold_nothing_up(self):
        self.kinds(3)
        self.do("link", 2, 0)
        self.do("sense", 0b011)
        self.tells([2, 0, 1], "order")

    def test_conditions_and_acknowledging_do_not_matter(self):
        self.kinds(3)
        self.do("link", 1, 0)
        self.do("sense", 0b111)
        self.do("ack", 2)
        self.do("sense", 0b100)
        self.tells([3, 1, 0, 2], "order")

    def test_all_32_kinds(self):
        self.kinds(32)
        self.do("sense", 2 ** 32 - 1)
        self.tells([32] + list(range(32)), "order")
        for k in range(31):
            self.do("link", k + 1, k)
        self.tells([32] + list(range(31, -1, -1)), "order")

    def test_as_all_are_reset(self):
        self.kinds(6)
        for a, b in ((5, 0), (3, 5), (4, 1)):
            self.do("link", a, b)
        self.do("sense", 0b111111)
        self.do("sense", 0)
        self.do("ackTo", 3)
        self.tells([6, 2, 3, 4, 1, 5, 0], "order")
        self.assertEqual(self.do("resetAll"), [6, 2, 3, 4, 1, 5, 0])
        self.tells([0], "order")


class Why(TableCase):
    def test_refusals_in_their_order(self):
        self.refused(-1, "why", 0)
        self.kind(delay=5)
        self.kind()
        self.do("on", 0)
        for wrong in (-1, 2, TOO_BIG, -TOO_BIG):
            self.refused(-1, "why", wrong)
        self.refused(-6, "why", 0)
        self.refused(-6, "why", 1)

    def test_not_refused_any_more_once_raised(self):
        self.kind()
        self.do("on", 0)
        self.tells([1, 1, 0], "why", 0)
        self.do("off", 0)
        self.refused(-6, "why", 0)

    def test_each_reason(self):
        self.kind(latching=1)
        self.do("on", 0)
        self.tells([1, 1, 0], "why", 0)
        self.do("ack", 0)
        self.tells([1, 0, 0], "why", 0)
        self.do("off", 0)
        self.tells([0, 0, 0], "why", 0)
        self.do("on", 0)
        self.do("off", 0)
        self.tells([0, 1, 0], "why", 0)

    def test_raised_kinds_that_come_before_it(self):
        for k in range(6):
            self.kind(latching=1)
        for a, b in ((5, 3), (3, 1), (4, 1), (2, 1), (1, 0)):
            self.do("link", a, b)
        self.do("sense", 0b110110)
        self.tells([1, 1, 3, 2, 4, 5], "why", 1)
        self.tells([1, 1, 0], "why", 2)
        self.refused(-6, "why", 0)
        self.refused(-6, "why", 3)
        self.do("sense", 0)
        self.do("ackTo", 3)
        self.do("reset", 4)
        self.tells([0, 0, 2, 2, 5], "why", 1)
        self.refused(-9, "reset", 1)
        self.do("resetAll")
        self.refused(-6, "why", 1)

    def test_at_the_papers_end(self):
        self.kind()
        self.kind()
        self.do("on", 1)
        self.fill_paper(0, 2000)
        self.tells([1, 1, 0], "why", 1)
        self.refused(-1, "why", 2)

    def test_all_32_kinds(self):
        for k in range(32):
            self.kind()
        for k in range(31):
            self.do("link", k, 31)
        self.do("sense", 2 ** 32 - 1)
        self.tells([1, 1, 31] + list(range(31)), "why", 31)
        self.tells([1, 1, 0], "why", 30)


if __name__ == "__main__":
    unittest.main()
