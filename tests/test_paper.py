"""What the document says ahead of its promises: a new table, and the paper's end."""

import unittest

from tests.helpers import TableCase


class NewTable(TableCase):
    def test_nothing_is_there(self):
        self.assertEqual(self.whole(), {"sound": 0, "stops": 0, "shown": [0], "tally": [0] * 5, "first": 0, "order": [0],
                                        "log": [0], "base": [0], "time": [0] * 4})
        self.refused(-1, "unlink", 0, 0)


class PapersEnd(TableCase):
    def test_at_2000(self):
        self.kind()
        self.kind()
        self.fill_paper(0, 1999)
        self.assertEqual(self.do("ack", 0), 1)
        self.assertEqual(self.table.paper.next_number, 2000)
        for name, numbers in (("on", [1]), ("off", [0]), ("sense", [0]), ("tick", [1]), ("ack", [0]), ("ackTo", [0]),
                              ("reset", [0]), ("resetAll", []), ("unshelve", [0])):
            self.refused(-2, name, *numbers)

    def test_not_at_1999(self):
        self.kind()
        self.fill_paper(0, 1999)
        self.assertEqual(self.do("tick", 1), 0)
        self.assertEqual(self.do("unshelve", 0), 0)
        self.assertEqual(self.do("resetAll"), [0])
        self.assertEqual(self.do("off", 0), 2)
        self.refused(-2, "on", 0)


if __name__ == "__main__":
    unittest.main()
