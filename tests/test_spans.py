"""What lists of integers span: against elimination with Fractions."""

import unittest
from fractions import Fraction

from made import cases, fraction, in_span, rank
from notesums.spans import Span, combination, opposites, parting, primitive, relations, span_of


def some_lines(chance):
    """Any lines of one length, some of which depend on others."""
    width = chance.randint(1, 6)
    lines = [[chance.randint(-3, 3) for _ in range(width)] for _ in range(chance.randint(0, 6))]
    if len(lines) > 1:
        lines.append([2 * x - 3 * y for x, y in zip(lines[0], lines[1])])
    return lines, width


def dot(one, other):
    return sum(x * y for x, y in zip(one, other))


class Spans(unittest.TestCase):
    def test_primitive(self):
        for line, found in (([0, -4, 6], [0, 2, -3]), ([0, 0], [0, 0]), ([], []), ([3, 5], [3, 5]), ([-1, 2], [1, -2])):
            self.assertEqual(primitive(line), found)

    def test_reduced_rows(self):
        for chance in cases(1, 200):
            lines, width = some_lines(chance)
            span = span_of(lines, width)
            rows = [span.row(lead) for lead in span.leads()]
            self.assertEqual(len(rows), rank(lines))
            self.assertEqual(span.is_full(), len(rows) == width)
            self.assertEqual(sorted(span.leads() + span.free()), list(range(width)))
            for lead, row in zip(span.leads(), rows):
                self.assertTrue(row[lead] > 0 and not any(row[:lead]))
                self.assertEqual([other[lead] for other in rows if other != row], [0] * (len(rows) - 1))
                self.assertTrue(in_span(lines, row))

    def test_take_tells_what_is_new(self):
        for chance in cases(2, 100):
            lines, width = some_lines(chance)
            span, taken = Span(width), []
            for line in lines:
                self.assertEqual(span.has(line), in_span(taken, line))
                self.assertEqual(span.take(line), not in_span(taken, line))
                taken.append(line)

    def test_twin(self):
        span = span_of([[1, 2, 3]], 3)
        other = span.twin()
        other.take([1, 0, 0])
        self.assertEqual((span.leads(), other.leads()), ([0], [0, 1]))
        self.assertEqual(span.row(0), [1, 2, 3])

    def test_opposites_and_parting(self):
        for chance in cases(3, 200):
            lines, width = some_lines(chance)
            span = span_of(lines, width)
            found = opposites(span)
            self.assertEqual((len(found), rank(found)), (width - rank(lines), len(found)))
            self.assertTrue(all(dot(line, row) == 0 for line in found for row in lines))
            target = [chance.randint(-2, 2) for _ in range(width)]
            apart = parting(span, target)
            self.assertEqual(apart is None, in_span(lines, target))
            if apart is not None:
                self.assertNotEqual(dot(apart, target), 0)
                self.assertTrue(all(dot(apart, row) == 0 for row in lines))

    def test_relations_and_combination(self):
        for chance in cases(4, 200):
            lines, width = some_lines(chance)
            found = relations(lines, width)
            self.assertEqual((len(found), rank(found)), (len(lines) - rank(lines), len(found)))
            for relation in found:
                self.assertTrue(all(dot(relation, [line[at] for line in lines]) == 0 for at in range(width)))
            target = [chance.randint(-2, 2) for _ in range(width)]
            numbers = combination(lines, target)
            self.assertEqual(numbers is None, not in_span(lines, target))
            if numbers is not None:
                for at in range(width):
                    together = sum((fraction(n) * line[at] for n, line in zip(numbers, lines)), Fraction(0))
                    self.assertEqual(together, target[at])


if __name__ == "__main__":
    unittest.main()
