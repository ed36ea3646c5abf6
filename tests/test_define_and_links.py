"""Promises 1 to 3: define, link, unlink."""

import unittest

from tests.helpers import TableCase

TOO_BIG = 10 ** 18


class Define(TableCase):
    def test_numbers_in_order(self):
        self.assertEqual([self.kind(), self.kind(), self.kind()], [0, 1, 2])

    def test_kind_is_as_defined_and_at_rest(self):
        self.do("define", 3, 1, 7, 8, 9, 10)
        self.assertEqual(self.do("kind", 0), [3, 1, 7, 8, 9, 10, 0, 0, 0, 0, 0, 0, 0, 0])

    def test_first_and_last_of_each_range(self):
        self.assertEqual(self.do("define", 0, 0, 0, 0, 0, 0), 0)
        self.assertEqual(self.do("define", 3, 1, 3600, 3600, 3600, 65535), 1)
        self.assertEqual(self.do("kind", 1)[:6], [3, 1, 3600, 3600, 3600, 65535])

    def test_out_of_range(self):
        for at, above in enumerate((4, 2, 3601, 3601, 3601, 65536)):
            for wrong in (-1, above, TOO_BIG, -TOO_BIG):
                numbers = [0] * 6
                numbers[at] = wrong
                self.refused(-1, "define", *numbers)
        self.assertEqual(self.kind(), 0)

    def test_thirty_two_kinds(self):
        for k in range(32):
            self.assertEqual(self.kind(rank=k % 4), k)
        self.refused(-3, "define", 0, 0, 0, 0, 0, 0)
        self.refused(-1, "define", 4, 0, 0, 0, 0, 0)
        self.assertEqual(len(self.table.kinds), 32)

    def test_define_at_the_papers_end(self):
        self.kind()
        self.fill_paper(0, 2000)
        self.assertEqual(self.kind(), 1)


class Link(TableCase):
    def setUp(self):
        super().setUp()
        for k in range(5):
            self.kind()

    def before(self, k):
        return self.table.links.all_before(k)

    def test_put_once(self):
        self.assertEqual(self.do("link", 0, 1), 1)
        self.unchanged(0, "link", 0, 1)
        self.assertEqual(self.before(1), [0])
        self.assertEqual(self.before(0), [])

    def test_goes_through_kinds_that_are_not_raised(self):
        self.do("link", 0, 1)
        self.do("link", 1, 2)
        self.do("link", 4, 2)
        self.do("link", 2, 3)
        self.assertEqual(self.before(3), [0, 1, 2, 4])
        self.assertEqual(self.before(2), [0, 1, 4])
        self.assertEqual(self.before(4), [])

    def test_shortcut_is_a_link_of_its_own(self):
        self.do("link", 0, 1)
        self.do("link", 1, 2)
        self.assertEqual(self.do("link", 0, 2), 1)
        self.assertEqual(self.do("unlink", 0, 2), 1)
        self.assertEqual(self.before(2), [0, 1])

    def test_circles(self):
        self.refused(-4, "link", 2, 2)
        self.do("link", 0, 1)
        self.refused(-4, "link", 1, 0)
        self.do("link", 1, 2)
        self.do("link", 2, 3)
        self.refused(-4, "link", 3, 0)
        self.refused(-4, "link", 2, 0)
        self.assertEqual(self.do("link", 0, 3), 1)

    def test_circle_is_free_when_a_link_is_gone(self):
        self.do("link", 0, 1)
        self.do("link", 1, 2)
        self.refused(-4, "link", 2, 0)
        self.do("unlink", 1, 2)
        self.assertEqual(self.do("link", 2, 0), 1)
        self.assertEqual(self.before(1), [0, 2])

    def test_no_such_kind(self):
        for wrong in (-1, 5, TOO_BIG, -TOO_BIG):
            self.refused(-1, "link", wrong, 0)
            self.refused(-1, "link", 0, wrong)
            self.refused(-1, "link", wrong, wrong)

    def test_at_the_papers_end(self):
        self.fill_paper(0, 2000)
        self.assertEqual(self.do("link", 0, 1), 1)
        self.assertEqual(self.do("unlink", 0, 1), 1)

    def test_all_kinds_in_one_chain(self):
        for k in range(5, 32):
            self.kind()
        for k in range(31):
            self.assertEqual(self.do("link", k + 1, k), 1)
        self.assertEqual(self.before(0), list(range(1, 32)))
        self.refused(-4, "link", 0, 31)


class Unlink(TableCase):
    def setUp(self):
        super().setUp()
        for k in range(3):
            self.kind()

    def test_other_links_stay(self):
        self.do("link", 0, 2)
        self.do("link", 1, 2)
        self.assertEqual(self.do("unlink", 0, 2), 1)
        self.assertEqual(self.table.links.all_before(2), [1])
        self.unchanged(0, "unlink", 0, 2)

    def test_none_there(self):
        self.do("link", 0, 1)
        self.do("link", 1, 2)
        self.unchanged(0, "unlink", 1, 0)
        self.unchanged(0, "unlink", 0, 2)
        self.unchanged(0, "unlink", 1, 1)

    def test_put_again(self):
        self.do("link", 0, 1)
        self.do("unlink", 0, 1)
        self.assertEqual(self.do("link", 0, 1), 1)

    def test_no_such_kind(self):
        for wrong in (-1, 3, TOO_BIG, -TOO_BIG):
            self.refused(-1, "unlink", wrong, 0)
            self.refused(-1, "unlink", 0, wrong)


if __name__ == "__main__":
    unittest.main()
