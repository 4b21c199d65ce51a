"""The examples of the document, as they stand there."""

import unittest

from ownfears import errors
from tests.sameness import same, told

# Where an example also calls what is not built yet, the parts of it that are stand here.
EXAMPLES = """
>>> ONES = (('a',), ('b',), ('c',), ('d',))
>>> FOUR = (('a', 'b', 'c', 'd'), (ONES, ONES, ONES, ONES))
>>> OWN = (('a', 'b', 'c', 'd'), ((('b',), ('c', 'd')), ONES, ONES, ONES))
>>> MEEK = (('a', 'b', 'c', 'd'), ((('b',), ('c',)), (('a', 'd'),), (('a',), ('b',)), (('c',),)))
>>> from ownfears.kinds import is_family, is_lot, is_net
>>> from ownfears.netchecker import lets_net
>>> [lets_net(OWN), is_net((('a',), (((),),))), is_net((('a',), ((),))), is_lot(('a', 'b'), ()), is_family(('a', 'b'), (('b',), ('a',)))]
[14, True, False, True, False]
>>> lets_net((('a', 'b'), ((('a',), ('a', 'b')), ((),))))
raises InvalidPaper(word='within', at=(0, 1))
>>> from ownfears.netparts import both_reckon, feared_by, lots_of, reckons, rest_of
>>> [lots_of(OWN, 'a'), reckons(OWN, 'a', ('d',)), reckons(OWN, 'a', ('b', 'c')), feared_by(OWN, ('c', 'd')), rest_of(OWN, ('b',))]
[(('b',), ('c', 'd')), True, False, ('a',), ('a', 'c', 'd')]
>>> [both_reckon(OWN, 'a', 'c'), both_reckon(MEEK, 'b', 'c'), both_reckon(MEEK, 'b', 'd')]
[(('b',), ('c',), ('d',)), (('a',),), ((),)]
>>> reckons(FOUR, 'e', ('a', 'e'))
raises NotUsable(word='house', at=-1)
>>> from ownfears.netchanges import kept_to, renamed, struck, with_lot, without_lot
>>> [with_lot(OWN, 'a', ('b', 'c'))[1][0], without_lot(MEEK, 'b', ('a', 'd'))[1][1], struck(OWN, (('a', ('b',)), ('d', ('a',))))[1][3]]
[(('b', 'c'), ('c', 'd')), ((),), (('b',), ('c',), ('d',))]
>>> renamed(MEEK, ('a', 'z'))
(('b', 'c', 'd', 'z'), ((('d', 'z'),), (('b',), ('z',)), (('c',),), (('b',), ('c',))))
>>> kept_to(OWN, ('a', 'b'))
(('a', 'b'), ((('b',),), (('a',), ('b',))))
>>> renamed(FOUR, ('a', 'z'), ('a', 'y'))
raises NotUsable(word='pairs', at=1)
>>> from ownfears.netreadings import lot_read, net_read
>>> from ownfears.nettexts import lot_text, net_text
>>> [net_text(MEEK).split('\\n')[:2], net_read(net_text(OWN)) == OWN, net_read('a = -'), lot_text(()), lot_read('a b')]
[['a = b | c', 'b = a d'], True, (('a',), (((),),)), '-', ('a', 'b')]
>>> net_read('a = a |')
raises InvalidText(line=0, column=4)
>>> net_read('a = b')
raises NotUsable(word='text', at=-1)
>>> from ownfears.netclasses import Alike, Lots, Net, Shut
>>> one = Net.of(OWN)
>>> [one['a'], one('a', 'a'), 'x' in one, len(one), (one - ('a', ('b',)))['a'], str(one & ('a', 'b'))]
[(('b',), ('c', 'd')), (('b',), ('c', 'd')), False, 4, (('c', 'd'),), 'a = b\\nb = a | b']
>>> [Alike(('a', 'b'), (('a',),)).fears_now, Shut(('a', 'b')).family_now, Alike(FOUR[0], ONES) == Net.of(FOUR)]
[((('a',),), (('a',),)), ((),), True]
>>> lots = Lots(('a',), ('a', 'b'), ('c',))
>>> [lots.lots_now, ('b',) in lots, (lots & Lots(('b', 'c'))).lots_now, (lots - 'a').lots_now, lots.covers(('a', 'b', 'c'), lots)]
[(('a', 'b'), ('c',)), True, (('b',), ('c',)), (('b',), ('c',)), True]
>>> one + ('a', ('x',))
raises NotUsable(word='pair', at=-1)
>>> from ownfears.plainquorums import plain_quorums
>>> MINE = plain_quorums(MEEK)
>>> [MINE[0], MINE[1]]
[(('a', 'b', 'd'), ('a', 'c', 'd')), (('b', 'c'),)]
>>> from ownfears.fitchecker import lets_fit
>>> [lets_fit(MEEK, MINE)]
[6]
>>> lets_fit(MEEK, MINE[:3] + ((('a', 'b'), ('a', 'b', 'd')),))
raises InvalidPaper(word='within', at=(3, 1))
>>> from ownfears.falls import state_in, wise_in
>>> [wise_in(MEEK, ('a',)), state_in(MEEK, ('a',), 'd')]
[('b', 'c'), 'naive']
>>> from ownfears.covers import all_covers, first_cover, has_cover, is_cover
>>> [has_cover(FOUR), first_cover(FOUR), first_cover(OWN), len(list(all_covers(OWN)))]
[False, None, ('a', 'b', ('c', 'd'), ('a',), ('b',), ('b',)), 6]
>>> [is_cover(OWN, ('b', 'a', ('a',), ('c', 'd'), ('b',), ('b',))), is_cover(OWN, ('a', 'a', ('c', 'd'), ('b',), ('b',), ('b',))), is_cover(OWN, None)]
[True, False, False]
>>> from ownfears.coverchecker import lets_cover, lets_either
>>> from ownfears.covers import fit_paper
>>> [lets_cover(OWN, first_cover(OWN)), lets_either(FOUR, fit_paper(FOUR)), lets_either(MEEK, fit_paper(MEEK)), lets_either(OWN, fit_paper(OWN))]
[('a', 'b'), 'fits', 'fits', 'cover']
>>> lets_cover(OWN, ('a', 'a', ('c', 'd'), ('b',), ('b',), ('b',)))
raises InvalidPaper(word='left', at='a')
>>> lets_either(FOUR, ('cover', ('a', 'b', ('c', 'd'), ('a',), ('b',), ('b',))))
raises InvalidPaper(word='lot', at=2)
>>> from ownfears.alikenets import alike_net, common_fears
>>> from ownfears.clashes import clashing, greatest_kept
>>> from ownfears.covertexts import cover_text
>>> [clashing(OWN), greatest_kept(OWN), greatest_kept(FOUR), clashing(FOUR)]
[(('a', 'b'), ('a', 'c'), ('a', 'd')), (('a',),), (('a', 'b', 'c', 'd'),), ()]
>>> [cover_text(first_cover(OWN)), alike_net(('a', 'b', 'c', 'd'), 1) == FOUR, common_fears(OWN), common_fears(MEEK)]
['a b c,d a b b', True, (('b',), ('c',), ('d',)), ((),)]
>>> [has_cover(alike_net(('a', 'b', 'c', 'd'), k)) for k in (0, 1, 2, 4)]
[False, False, True, True]
"""


def steps(text):
    """The pairs of a line of code and what is written below it, perhaps None."""
    rows = text.strip().split("\n")
    pairs = []
    for row in rows:
        if row.startswith(">>> "):
            pairs.append((row[4:], None))
        else:
            pairs[-1] = (pairs[-1][0], row)
    return pairs


class ExamplesTest(unittest.TestCase):
    def test_each(self):
        names = dict(vars(errors))
        for code, written in steps(EXAMPLES):
            with self.subTest(code=code):
                if written is None:
                    exec(code, names)
                elif written.startswith("raises "):
                    with self.assertRaises(errors.FearError) as caught:
                        eval(code, names)
                    self.assertTrue(same(told(caught.exception), told(eval(written[7:], names))), told(caught.exception))
                else:
                    found = eval(code, names)
                    self.assertTrue(same(found, eval(written, names)), found)


if __name__ == "__main__":
    unittest.main()
