"""The examples of the document's interface, from ending on.

    >>> protocol = (4, 1, (0, 1), ((1, 2, (), (0,)), (0, 2, ((0, (0, 1, 1)),), (0,)),
    ...                            (0, 3, ((0, (1, -1, 0)),), (0,)), (2, 3, ((0, (1, -1, 0)),), ())))
    >>> resilience = ((1, -3, 0, 1), (0, 1, -1, 0))
    >>> from enoughheard.ending import ends_outside
    >>> from enoughheard.situations import occupied
    >>> (ends_outside(protocol, resilience, (), occupied(protocol, (0, 3))),
    ...  ends_outside(protocol, resilience, (), occupied(protocol, (3,))))
    (True, False)
    >>> from enoughheard.least import least_factor
    >>> least_factor("ends", protocol, ((0, 1, -1, 0),), (), occupied(protocol, (0, 3)))
    3
    >>> from enoughheard.mends import choices, with_choice
    >>> options = (("bound", (0, (0, 1, 1)), (0, 1, 0), 1), ("drop", 1, 2))
    >>> (list(choices(options)), len(with_choice(protocol, options, (0, 1))[3]))
    ([(), (0,), (1,), (0, 1)], 3)
    >>> from enoughheard.checker import first_fault
    >>> from enoughheard.claims import decide
    >>> claim = ("avoids", protocol, resilience, (1,), occupied(protocol, (3,)))
    >>> (decide(claim)[0], first_fault(("broken", claim, ((4, 1, 1), (3, 0, 0, 0), ()))))
    ('shown', ('situation', 0))
    >>> from enoughheard.halls import Hall
    >>> hall = Hall(protocol, (4, 1, 1), (0, 0, 1))
    >>> hall.act(2, 0)
    >>> told = hall.spread()
    >>> hall.lie(3, 0, 0)
    >>> (told, hall.crowd(), hall.heard(0, 0), hall.can_act(0), hall.is_end())
    (3, ((2, 0, 1, 0), (1,)), 2, (1,), True)
    >>> from enoughheard.replays import replayed
    >>> replayed(protocol, (4, 1, 1), (2, 1, 0, 0), ((0, 1), (1, 2))).deeds()
    (('act', 2, 0), ('deliver', 2, 0, 0), ('lie', 3, 0, 0), ('act', 0, 1), ('deliver', 0, 1, 0), \
('deliver', 2, 1, 0), ('act', 1, 1))
    >>> from enoughheard.texts import format_protocol
    >>> format_protocol((2, 1, (0,), ((0, 1, ((0, (0, 1, 1)),), (0,)),))).splitlines()
    ['locations 2', 'kinds 1', 'starts 0', 'rule 0 1 hears 0 0 1 1 says 0']
"""

import doctest
import unittest


class Examples(unittest.TestCase):
    def test_the_examples(self):
        parsed = doctest.DocTestParser().get_doctest(__doc__, {}, "examples", __file__, 0)
        result = doctest.DocTestRunner().run(parsed)
        self.assertEqual((result.failed, result.attempted), (0, 24))


if __name__ == "__main__":
    unittest.main()
