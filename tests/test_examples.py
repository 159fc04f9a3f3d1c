"""The examples of the document, word for word.

>>> from stoppoints.codes import Look, Loop, Row, Work
>>> from stoppoints.programs import Program
>>> from stoppoints.solving import span_of
>>> code = Loop(0, None, Row(Work(2), Look('a'), Work(3)))
>>> span_of(Program('f', {'f': code})).time
5

>>> from stoppoints.codes import Call, Either, Look, Row, Work
>>> from stoppoints.programs import Program
>>> from stoppoints.solving import span_of
>>> body = Either(Work(0), Row(Look('a'), Call('f'), Work(1)))
>>> span_of(Program('f', {'f': body})).is_endless()
True

>>> from stoppoints.texts import parse_code, show_code
>>> code = parse_code('0..3 {5 | [?a:2; call g]}')
>>> [show_code(code * 4), len(code), code.depth(), 'a' in code]
['4..4 0..3 {5 | [?a:2; call g]}', 6, 4, True]

>>> from stoppoints.programs import Program
>>> from stoppoints.texts import parse_code
>>> program = Program('f', {'f': parse_code('[2; 0..* {?a | 3}]')})
>>> walk = program([3, 1, 0, 1])
>>> [walk.stretches(), walk.done, walk.looks(), walk.rest(0), walk.rest(5)]
[[5, 3], True, ['a'], 5, 3]

>>> from stoppoints.longest import longest_trail
>>> from stoppoints.programs import Program
>>> from stoppoints.texts import parse_code
>>> program = Program('f', {'f': parse_code('3..3 [4; 0..1 ?a]')})
>>> longest_trail(program).greatest
12
"""

import doctest
import unittest


def load_tests(loader, tests, pattern):
    tests.addTests(doctest.DocTestSuite())
    return tests


if __name__ == "__main__":
    unittest.main()
