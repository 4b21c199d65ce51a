"""The examples of the document, as they stand there."""

import unittest

from ownfears import errors
from tests.sameness import same, told

EXAMPLES = """
>>> ONES = (('a',), ('b',), ('c',), ('d',))
>>> FOUR = (('a', 'b', 'c', 'd'), (ONES, ONES, ONES, ONES))
>>> OWN = (('a', 'b', 'c', 'd'), ((('b',), ('c', 'd')), ONES, ONES, ONES))
>>> MEEK = (('a', 'b', 'c', 'd'), ((('b',), ('c',)), (('a', 'd'),), (('a',), ('b',)), (('c',),)))
>>> SENT = (('echo', True, ((('sender',),),)), ('take', True, ((('quorum', 'echo'),),)))
>>> READY = (SENT[0], ('ready', True, ((('quorum', 'echo'),), (('kernel', 'ready'),))), ('take', True, ((('quorum', 'ready'),),)))
>>> from ownfears.kinds import is_family, is_lot, is_net
>>> from ownfears.netchecker import lets_net
>>> [lets_net(OWN), is_net((('a',), (((),),))), is_net((('a',), ((),))), is_lot(('a', 'b'), ()), is_family(('a', 'b'), (('b',), ('a',)))]
[14, True, False, True, False]
>>> lets_net((('a', 'b'), ((('a',), ('a', 'b')), ((),))))
raises InvalidPaper(word='within', at=(0, 1))
>>> from ownfears.netparts import both_reckon, feared_by, lots_of, reckons, rest_of
>>> [lots_of(OWN, 'a'), reckons(OWN, 'a', ('d',)), reckons(OWN, 'a', ('b', 'c')), feared_by(OWN, ('c', 'd')), rest_of(OWN, ('b',))]
[(('b',), ('c', 'd')), True, False, ('a',), ('a', 'c', 'd')]
>>> [both_reckon(OWN, 'a', 'c'), both_reckon(MEEK, 'b', 'c'), both_reckon(MEEK, 'b', 'd')]
[(('b',), ('c',), ('d',)), (('a',),), ((),)]
>>> reckons(FOUR, 'e', ('a', 'e'))
raises NotUsable(word='house', at=-1)
>>> from ownfears.netchanges import kept_to, renamed, struck, with_lot, without_lot
>>> [with_lot(OWN, 'a', ('b', 'c'))[1][0], without_lot(MEEK, 'b', ('a', 'd'))[1][1], struck(OWN, (('a', ('b',)), ('d', ('a',))))[1][3]]
[(('b', 'c'), ('c', 'd')), ((),), (('b',), ('c',), ('d',))]
>>> renamed(MEEK, ('a', 'z'))
(('b', 'c', 'd', 'z'), ((('d', 'z'),), (('b',), ('z',)), (('c',),), (('b',), ('c',))))
>>> kept_to(OWN, ('a', 'b'))
(('a', 'b'), ((('b',),), (('a',), ('b',))))
>>> renamed(FOUR, ('a', 'z'), ('a', 'y'))
raises NotUsable(word='pairs', at=1)
>>> from ownfears.netreadings import lot_read, net_read
>>> from ownfears.nettexts import lot_text, net_text
>>> [net_text(MEEK).split('\\n')[:2], net_read(net_text(OWN)) == OWN, net_read('a = -'), lot_text(()), lot_read('a b')]
[['a = b | c', 'b = a d'], True, (('a',), (((),),)), '-', ('a', 'b')]
>>> net_read('a = a |')
raises InvalidText(line=0, column=4)
>>> net_read('a = b')
raises NotUsable(word='text', at=-1)
>>> from ownfears.netclasses import Alike, Lots, Net, Shut
>>> one = Net.of(OWN)
>>> [one['a'], one('a', 'a'), 'x' in one, len(one), (one - ('a', ('b',)))['a'], str(one & ('a', 'b'))]
[(('b',), ('c', 'd')), (('b',), ('c', 'd')), False, 4, (('c', 'd'),), 'a = b\\nb = a | b']
>>> [Alike(('a', 'b'), (('a',),)).fears_now, Shut(('a', 'b')).family_now, Alike(FOUR[0], ONES) == Net.of(FOUR)]
[((('a',),), (('a',),)), ((),), True]
>>> lots = Lots(('a',), ('a', 'b'), ('c',))
>>> [lots.lots_now, ('b',) in lots, (lots & Lots(('b', 'c'))).lots_now, (lots - 'a').lots_now, lots.covers(('a', 'b', 'c'), lots)]
[(('a', 'b'), ('c',)), True, (('b',), ('c',)), (('b',), ('c',)), True]
>>> one + ('a', ('x',))
raises NotUsable(word='pair', at=-1)
>>> from ownfears.fitting import are_available, fits, missed_lot, torn_pair
>>> from ownfears.plainquorums import plain_quorums
>>> MINE = plain_quorums(MEEK)
>>> [MINE[0], MINE[1], fits(MEEK, MINE), fits(OWN, plain_quorums(OWN))]
[(('a', 'b', 'd'), ('a', 'c', 'd')), (('b', 'c'),), True, False]
>>> [torn_pair(OWN, plain_quorums(OWN)), are_available(MEEK, MINE[:2] + MINE[:2]), missed_lot(MEEK, MINE[:2] + MINE[:2])]
[('a', 'b', ('a', 'b'), ('b', 'c', 'd'), ('b',)), False, ('c', ('a',))]
>>> from ownfears.fitchecker import lets_fit
>>> from ownfears.kernels import is_kernel, kernels_of
>>> [lets_fit(MEEK, MINE), kernels_of(MEEK, MINE, 'a'), is_kernel(MEEK, MINE, 'b', ('b', 'c'))]
[6, (('a',), ('b', 'c'), ('d',)), False]
>>> lets_fit(MEEK, MINE[:3] + ((('a', 'b'), ('a', 'b', 'd')),))
raises InvalidPaper(word='within', at=(3, 1))
>>> from ownfears.falls import state_in, wise_in
>>> from ownfears.guildchecker import lets_guild
>>> from ownfears.guilds import greatest_guild
>>> [wise_in(MEEK, ('a',)), state_in(MEEK, ('a',), 'd'), greatest_guild(FOUR, plain_quorums(FOUR), ('a',)), greatest_guild(MEEK, MINE, ('a',))]
[('b', 'c'), 'naive', ('b', 'c', 'd'), ()]
>>> lets_guild(MEEK, MINE, ('a',), ((), (('a', 'd'), ('c',), ('b',))))
0
>>> lets_guild(MEEK, MINE, ('a',), ((), (('a', 'c', 'd'), ('b',))))
raises InvalidPaper(word='round', at=0)
>>> from ownfears.goodfalls import good_falls
>>> from ownfears.standings import Plain, Standing
>>> [good_falls(FOUR, plain_quorums(FOUR), 'a'), good_falls(MEEK, MINE, 'b')]
[(('b',), ('c',), ('d',)), ((),)]
>>> one = Plain(FOUR)
>>> [one.fell('a'), one.states_now, one.fell('b'), one.tried(('d',)), one.undo(), one.rose('a'), 'a' in one, len(one)]
[('a',), ('fallen', 'wise', 'wise', 'wise'), ('b', 'c', 'd'), ('a', 'b', 'c'), ('fell', 'b'), ('a',), True, 2]
>>> one.rose('c')
raises NotUsable(word='house', at=-1)
>>> from ownfears.covers import all_covers, first_cover, has_cover, is_cover
>>> [has_cover(FOUR), first_cover(FOUR), first_cover(OWN), len(list(all_covers(OWN)))]
[False, None, ('a', 'b', ('c', 'd'), ('a',), ('b',), ('b',)), 6]
>>> [is_cover(OWN, ('b', 'a', ('a',), ('c', 'd'), ('b',), ('b',))), is_cover(OWN, ('a', 'a', ('c', 'd'), ('b',), ('b',), ('b',))), is_cover(OWN, None)]
[True, False, False]
>>> from ownfears.coverchecker import lets_cover, lets_either
>>> from ownfears.covers import fit_paper
>>> [lets_cover(OWN, first_cover(OWN)), lets_either(FOUR, fit_paper(FOUR)), lets_either(MEEK, fit_paper(MEEK)), lets_either(OWN, fit_paper(OWN))]
[('a', 'b'), 'fits', 'fits', 'cover']
>>> lets_cover(OWN, ('a', 'a', ('c', 'd'), ('b',), ('b',), ('b',)))
raises InvalidPaper(word='left', at='a')
>>> lets_either(FOUR, ('cover', ('a', 'b', ('c', 'd'), ('a',), ('b',), ('b',))))
raises InvalidPaper(word='lot', at=2)
>>> from ownfears.strikechecker import lets_strikes
>>> from ownfears.strikes import least_price, least_strikes, strike_paper
>>> ALL = (1, 1, 1, 1)
>>> [least_price(OWN, ((3, 5), ALL, ALL, ALL)), least_strikes(OWN, ((3, 5), ALL, ALL, ALL)), least_price(FOUR, (ALL, ALL, ALL, ALL))]
[3, (('a', ('b',)),), 0]
>>> least_strikes(OWN, ((4, 5), ALL, ALL, ALL))
(('b', ('a',)), ('c', ('a',)), ('d', ('a',)))
>>> TWO = (('a', 'b'), ((('b',),), (('a',),)))
>>> PAPER = (2, (('a', ('b',)),), ('split', ('a', 'b', ('b',), ('a',), ('b',), ('a',)), (('paid',), ('paid',))))
>>> [lets_strikes(TWO, ((2,), (3,)), PAPER), lets_strikes(OWN, ((3, 5), ALL, ALL, ALL), strike_paper(OWN, ((3, 5), ALL, ALL, ALL)))]
[2, 3]
>>> lets_strikes(TWO, ((2,), (1,)), PAPER)
raises InvalidPaper(word='paid', at=(1,))
>>> least_price(TWO, ((2,), (0,)))
raises NotUsable(word='prices', at=-1)
>>> from ownfears.alikenets import alike_net, common_fears
>>> from ownfears.clashes import clashing, greatest_kept
>>> from ownfears.covertexts import cover_text
>>> [clashing(OWN), greatest_kept(OWN), greatest_kept(FOUR), clashing(FOUR)]
[(('a', 'b'), ('a', 'c'), ('a', 'd')), (('a',),), (('a', 'b', 'c', 'd'),), ()]
>>> [cover_text(first_cover(OWN)), alike_net(('a', 'b', 'c', 'd'), 1) == FOUR, common_fears(OWN), common_fears(MEEK)]
['a b c,d a b b', True, (('b',), ('c',), ('d',)), ((),)]
>>> [has_cover(alike_net(('a', 'b', 'c', 'd'), k)) for k in (0, 1, 2, 4)]
[False, False, True, True]
>>> from ownfears.protocolchecker import lets_protocol
>>> from ownfears.protocolparts import is_once, leads_to
>>> from ownfears.protocolreadings import protocol_read
>>> from ownfears.protocoltexts import protocol_text
>>> protocol_text(READY)
'echo once sender\\nready once quorum:echo kernel:ready\\ntake once quorum:ready'
>>> [lets_protocol(READY), protocol_read('one free one:one+self:one') == (('one', False, ((('one', 'one'), ('self', 'one')),)),)]
[3, True]
>>> [leads_to(READY, 'take'), leads_to(READY, 'ready'), leads_to(READY, 'echo'), is_once(SENT, 'take')]
[('echo', 'ready'), ('echo', 'ready'), (), True]
>>> lets_protocol(SENT + SENT[:1])
raises InvalidPaper(word='name', at=2)
>>> protocol_read('echo once sender\\ntake often quorum:ready')
raises InvalidText(line=1, column=1)
>>> from ownfears.plainquorums import plain_quorums
>>> from ownfears.runs import calm_run, lets_run, takers
>>> from ownfears.sayings import can_say, possible_sayings
>>> HEARD = (FOUR, plain_quorums(FOUR), READY, 'a', ('d',))
>>> LIED = (FOUR, plain_quorums(FOUR), SENT, 'd', ('d',))
>>> [list(possible_sayings(HEARD, ())), can_say(HEARD, (('a', 'echo', 'v'), ('b', 'echo', 'v')), ('c', 'ready', 'v'))]
[[('a', 'echo', 'v'), ('b', 'echo', 'v'), ('c', 'echo', 'v')], True]
>>> [' '.join(saying) for saying in calm_run(HEARD, 'v')]
['a echo v', 'b echo v', 'a ready v', 'b ready v', 'a take v', 'b take v', 'c echo v', 'c ready v', 'c take v']
>>> [takers(HEARD, calm_run(HEARD, 'v'), 'v'), calm_run(HEARD, 'w'), len(list(possible_sayings(LIED, ())))]
[('a', 'b', 'c'), (), 6]
>>> lets_run(LIED, (('a', 'echo', 'v'), ('a', 'echo', 'w')))
raises InvalidPaper(word='once', at=1)
>>> from ownfears.places import once_places, used_places
>>> from ownfears.sure import all_sayable, sure_sayings
>>> [len(sure_sayings(HEARD, ())), sure_sayings(LIED, ()), len(all_sayable(LIED, 'v')), len(all_sayable(HEARD, 'w'))]
[9, (), 6, 0]
>>> [sure_sayings(LIED, (('a', 'echo', 'v'), ('b', 'echo', 'v'))), len(once_places(LIED)), used_places(LIED, (('b', 'echo', 'w'),))]
[(('a', 'echo', 'v'), ('b', 'echo', 'v')), 6, (('b', 'echo'),)]
>>> from ownfears.courses import Course, Warned
>>> one = Warned(*LIED)
>>> [one.say('a', 'echo', 'v'), one.say('b', 'echo', 'v'), one.say('c', 'echo', 'w')]
[(('a', 'echo', 'v'), (('a', 'echo', 'w'),)), (('b', 'echo', 'v'), (('b', 'echo', 'w'),)), (('c', 'echo', 'w'), (('c', 'echo', 'v'),))]
>>> [one.sayable(), one.tried(('a', 'take', 'v')) == one.run + (('a', 'take', 'v'),), len(one), one.undo(), ('c', 'echo', 'w') in one]
[[('a', 'take', 'v'), ('b', 'take', 'v'), ('c', 'take', 'v')], True, 3, ('c', 'echo', 'w'), False]
>>> [one == Course(*LIED), str(one), one.blocked(), one.taken('v')]
[False, 'a echo v\\nb echo v', (('a', 'echo', 'w'), ('b', 'echo', 'w')), ()]
>>> Course(*HEARD).say('d', 'echo', 'v')
raises NotUsable(word='saying', at=-1)
>>> from ownfears.parting import can_part
>>> from ownfears.partchecker import lets_part
>>> THREES = plain_quorums(FOUR)
>>> ALONE, BOTH = (FOUR, THREES, SENT, 'a', ('a',)), (FOUR, THREES, SENT, 'a', ('a', 'b'))
>>> [can_part(ALONE, 'c', 'd'), can_part(BOTH, 'c', 'd'), can_part(BOTH, 'c', 'c')]
[False, True, False]
>>> lets_part(ALONE, 'c', 'd', ('kept', ('v', ())))
raises InvalidPaper(word='leaf', at=())
>>> from ownfears.leaving import can_leave, hears_sender
>>> LATE = (FOUR, THREES, READY, 'a', ('a',))
>>> [can_leave(ALONE, 'c', 'd'), can_leave(LATE, 'c', 'd'), hears_sender(LATE, 'c'), hears_sender((FOUR, THREES, READY, 'a', ('b',)), 'c')]
[True, False, False, True]
>>> from ownfears.leastfalls import hearing_falls, leaving_falls, parting_falls, safe_pairs
>>> [parting_falls(FOUR, THREES, SENT, 'a', 'c', 'd'), leaving_falls(FOUR, THREES, SENT, 'a', 'c', 'd'), leaving_falls(FOUR, THREES, READY, 'a', 'c', 'd')]
[(('a', 'b'),), (('a',),), (('a', 'b'),)]
>>> [hearing_falls(FOUR, THREES, SENT, 'a', 'c'), len(safe_pairs(FOUR, THREES, SENT, 'a'))]
[(('b',), ('d',)), 6]
>>> from ownfears.benches import Bench, Fallen
>>> bench = Bench(FOUR, THREES, SENT, 'a')
>>> [bench.say('b', 'echo', 'v'), bench.fell('a'), bench.barred(('say', 'b', 'echo', 'w')), bench.say('c', 'echo', 'v')]
[(), (), 'once', (('b', 'take', 'v'), ('c', 'take', 'v'), ('d', 'take', 'v'))]
>>> from ownfears.benchtexts import log_lines
>>> from ownfears.desks import Desk
>>> desk = Desk()
>>> [desk.say(row) for row in ('\\n'.join(log_lines(bench.log()[:1])), 'fall d', 'bars say d echo v', 'houses', 'verdict', 'undo')]
['ok', '-', 'fallen', 'd', 'going', 'fall d']
"""


def steps(text):
    """The pairs of a line of code and what is written below it, perhaps None."""
    rows = text.strip().split("\n")
    pairs = []
    for row in rows:
        if row.startswith(">>> "):
            pairs.append((row[4:], None))
        else:
            pairs[-1] = (pairs[-1][0], row)
    return pairs


class ExamplesTest(unittest.TestCase):
    def test_each(self):
        names = dict(vars(errors))
        for code, written in steps(EXAMPLES):
            with self.subTest(code=code):
                if written is None:
                    exec(code, names)
                elif written.startswith("raises "):
                    with self.assertRaises(errors.FearError) as caught:
                        eval(code, names)
                    self.assertTrue(same(told(caught.exception), told(eval(written[7:], names))), told(caught.exception))
                else:
                    found = eval(code, names)
                    self.assertTrue(same(found, eval(written, names)), found)


if __name__ == "__main__":
    unittest.main()
