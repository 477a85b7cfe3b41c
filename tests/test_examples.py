"""The examples of the document, as they stand there."""

import unittest

from tests.examples import check_example

WORLDS = (
    """
>>> from unlikekeys.worlds import World
>>> world = World(('a', 'b'), (('ra', 'a', ('no', 'row')), ('rb', 'b', ('no', 'row'))), ((('ra', 'row'),), (('rb', 'row'),)), ((('ra', 'row'), ('rb', 'row')),), ())
>>> [world.first, world.stands, world.has_row(('no', 'row')), world.is_broken(('row', 'row')), world.made(('no', 'no'), (('rb', 'row'),))]
[('no', 'no'), (('no', 'no'), ('no', 'row'), ('row', 'no'), ('row', 'row')), True, True, ('no', 'row')]
""",
    """
>>> from unlikekeys.worlds import World
>>> World(('a',), (), (), (), ())
raises BadWorld(value=(('a',), (), (), (), ()))
""",
)

SCHEMES = (
    """
>>> from unlikekeys.worlds import World
>>> world = World(('a', 'b'), (('ra', 'a', ('no', 'row')), ('rb', 'b', ('no', 'row'))), ((('ra', 'row'),), (('rb', 'row'),)), ((('ra', 'row'), ('rb', 'row')),), ())
>>> pa = ('pa', 'put', (), (('do', 'b', (('rb', 'no'),), (), (), 1, 3), ('do', 'a', (('ra', 'no'),), (('ra', 'row'),), (), 2, 3), ('say', 'done'), ('say', 'refused')))
>>> from unlikekeys.schemes import is_schemes
>>> [is_schemes(world, (pa,)), is_schemes(world, (pa, pa)), is_schemes(world, pa)]
[True, False, False]
""",
)

RUNS = (
    """
>>> from unlikekeys.worlds import World
>>> world = World(('a', 'b'), (('ra', 'a', ('no', 'row')), ('rb', 'b', ('no', 'row'))), ((('ra', 'row'),), (('rb', 'row'),)), ((('ra', 'row'), ('rb', 'row')),), ())
>>> pa = ('pa', 'put', (), (('do', 'b', (('rb', 'no'),), (), (), 1, 3), ('do', 'a', (('ra', 'no'),), (('ra', 'row'),), (), 2, 3), ('say', 'done'), ('say', 'refused')))
>>> from unlikekeys.runs import played
>>> play = played(world, (pa,), (('begin', 'pa'), ('step', 0), ('begin', 'pa'), ('step', 0), ('step', 1), ('step', 1)))
>>> [play.last_stand, play.doers, play.moments, play.wrong]
[('row', 'no'), (('ended', 'done'), ('ended', 'refused')), ((3, 'put', 0),), None]
""",
    """
>>> from unlikekeys.worlds import World
>>> world = World(('a', 'b'), (('ra', 'a', ('no', 'row')), ('rb', 'b', ('no', 'row'))), ((('ra', 'row'),), (('rb', 'row'),)), ((('ra', 'row'), ('rb', 'row')),), ())
>>> pa = ('pa', 'put', (), (('do', 'b', (('rb', 'no'),), (), (), 1, 3), ('do', 'a', (('ra', 'no'),), (('ra', 'row'),), (), 2, 3), ('say', 'done'), ('say', 'refused')))
>>> pb = ('pb', 'put', (), (('do', 'a', (('ra', 'no'),), (), (), 1, 3), ('do', 'b', (('rb', 'no'),), (('rb', 'row'),), (), 2, 3), ('say', 'done'), ('say', 'refused')))
>>> from unlikekeys.runs import played
>>> played(world, (pa, pb), (('begin', 'pa'), ('begin', 'pb'), ('step', 0), ('step', 1), ('step', 0), ('step', 1))).wrong
(5, 'never')
""",
    """
>>> from unlikekeys.worlds import World
>>> world = World(('a', 'b'), (('ra', 'a', ('no', 'row')), ('rb', 'b', ('no', 'row'))), ((('ra', 'row'),), (('rb', 'row'),)), ((('ra', 'row'), ('rb', 'row')),), ())
>>> pa = ('pa', 'put', (), (('do', 'b', (('rb', 'no'),), (), (), 1, 3), ('do', 'a', (('ra', 'no'),), (('ra', 'row'),), (), 2, 3), ('say', 'done'), ('say', 'refused')))
>>> from unlikekeys.runs import played
>>> played(world, (pa,), (('begin', 'pa'), ('step', 1)))
raises BadRun(index=1)
""",
)

CASES = (
    """
>>> from unlikekeys.worlds import World
>>> world = World(('a', 'b'), (('ra', 'a', ('no', 'row')), ('rb', 'b', ('no', 'row'))), ((('ra', 'row'),), (('rb', 'row'),)), ((('ra', 'row'), ('rb', 'row')),), ())
>>> pa = ('pa', 'put', (), (('do', 'b', (('rb', 'no'),), (), (), 1, 3), ('do', 'a', (('ra', 'no'),), (('ra', 'row'),), (), 2, 3), ('say', 'done'), ('say', 'refused')))
>>> from unlikekeys.cases import led
>>> led(world, (pa,), (('no', 'no'), (), ()))
((('begin', 'pa'), '', (('no', 'no'), ('pa', 0, False, 'here', 'none'), ())), (('step', ('pa', 0, False, 'here')), '', (('no', 'no'), (), (('pa', 1, False, 'here'),))))
""",
    """
>>> from unlikekeys.cases import is_within
>>> one, hero = (('no', 'row'), (), (('pa', 1, False, 'here'),)), (('no', 'row'), ('pa', 1, False, 'here', 'row'), ())
>>> [is_within(one, hero), is_within(hero, one), is_within((('no', 'row'), (), ()), one)]
[True, False, True]
""",
)

JUDGING = (
    """
>>> from unlikekeys.worlds import World
>>> world = World(('a', 'b'), (('ra', 'a', ('no', 'row')), ('rb', 'b', ('no', 'row'))), ((('ra', 'row'),), (('rb', 'row'),)), ((('ra', 'row'), ('rb', 'row')),), ())
>>> pa = ('pa', 'put', (), (('do', 'b', (('rb', 'no'),), (), (), 1, 3), ('do', 'a', (('ra', 'no'),), (('ra', 'row'),), (), 2, 3), ('say', 'done'), ('say', 'refused')))
>>> from unlikekeys.judging import judged
>>> judged(world, (pa,))
('right', ((('no', 'row'), (), (('pa', 1, False, 'here'),)), (('row', 'row'), (), ())))
""",
    """
>>> from unlikekeys.worlds import World
>>> world = World(('a', 'b'), (('ra', 'a', ('no', 'row')), ('rb', 'b', ('no', 'row'))), ((('ra', 'row'),), (('rb', 'row'),)), ((('ra', 'row'), ('rb', 'row')),), ())
>>> pa = ('pa', 'put', (), (('do', 'b', (('rb', 'no'),), (), (), 1, 3), ('do', 'a', (('ra', 'no'),), (('ra', 'row'),), (), 2, 3), ('say', 'done'), ('say', 'refused')))
>>> pb = ('pb', 'put', (), (('do', 'a', (('ra', 'no'),), (), (), 1, 3), ('do', 'b', (('rb', 'no'),), (('rb', 'row'),), (), 2, 3), ('say', 'done'), ('say', 'refused')))
>>> from unlikekeys.judging import judged
>>> from unlikekeys.tables import shows_wrong
>>> found = judged(world, (pa, pb))
>>> [found[0], len(found[2]), len(found[2][0]), found[2][1], len(found[2][2]), shows_wrong(world, (pa, pb), found[1], found[2])]
['wrong', 3, 3, ((('no', 'no'), (), (('pa', 1, False, 'here'), ('pb', 1, False, 'here'))),), 2, True]
""",
    """
>>> from unlikekeys.worlds import World
>>> world = World(('a', 'b'), (('ra', 'a', ('no', 'row')), ('rb', 'b', ('no', 'row'))), ((('ra', 'row'),), (('rb', 'row'),)), ((('ra', 'row'), ('rb', 'row')),), ())
>>> pa = ('pa', 'put', (), (('do', 'b', (('rb', 'no'),), (), (), 1, 3), ('do', 'a', (('ra', 'no'),), (('ra', 'row'),), (), 2, 3), ('say', 'done'), ('say', 'refused')))
>>> from unlikekeys.judging import comes
>>> found = comes(world, (pa,), (('row', 'no'),))
>>> [found[0], found[2], comes(world, (pa,), (('row', 'row'),))[0], comes(world, (pa,), ())]
['run', (((('no', 'no'), (), (('pa', 1, False, 'here'),)), (('row', 'no'), (), ())),), 'never', ('never', ())]
""",
)

BARRING = (
    """
>>> from unlikekeys.worlds import World
>>> world = World(('a', 'b'), (('ra', 'a', ('no', 'row')), ('rb', 'b', ('no', 'row'))), ((('ra', 'row'),), (('rb', 'row'),)), ((('ra', 'row'), ('rb', 'row')),), ())
>>> pa = ('pa', 'put', (), (('do', 'b', (('rb', 'no'),), (), (), 1, 3), ('do', 'a', (('ra', 'no'),), (('ra', 'row'),), (), 2, 3), ('say', 'done'), ('say', 'refused')))
>>> from unlikekeys.barring import barred, barred_stands
>>> [barred_stands(world, (pa,), 'pa'), barred(world, (pa,), 'pa')]
[(), ('never', ())]
""",
)

MENDING = (
    """
>>> from unlikekeys.worlds import World
>>> world = World(('a', 'b'), (('ra', 'a', ('no', 'row')), ('rb', 'b', ('no', 'row'))), ((('ra', 'row'),), (('rb', 'row'),)), ((('ra', 'row'), ('rb', 'row')),), ())
>>> pa = ('pa', 'put', (), (('do', 'b', (('rb', 'no'),), (), (), 1, 3), ('do', 'a', (('ra', 'no'),), (('ra', 'row'),), (), 2, 3), ('say', 'done'), ('say', 'refused')))
>>> from unlikekeys.mending import chosen
>>> row = ('may', 1, pa[3][1])
>>> offer = ((pa[0], pa[1], pa[2], pa[3][:1] + (row,) + pa[3][2:]),)
>>> [chosen(world, offer, (1,)) == (pa,), chosen(world, offer, ())]
[True, (('pa', 'put', (), (('do', 'b', (('rb', 'no'),), (), (), 1, 2), ('say', 'done'), ('say', 'refused'))),)]
""",
    """
>>> from unlikekeys.worlds import World
>>> world = World(('a', 'b'), (('ra', 'a', ('no', 'row')), ('rb', 'b', ('no', 'row'))), ((('ra', 'row'),), (('rb', 'row'),)), ((('ra', 'row'), ('rb', 'row')),), ())
>>> pa = ('pa', 'put', (), (('do', 'b', (('rb', 'no'),), (), (), 1, 3), ('do', 'a', (('ra', 'no'),), (('ra', 'row'),), (), 2, 3), ('say', 'done'), ('say', 'refused')))
>>> from unlikekeys.mending import mended
>>> row = ('may', 1, pa[3][1])
>>> offer = ((pa[0], pa[1], pa[2], pa[3][:1] + (row,) + pa[3][2:]),)
>>> found = mended(world, offer, ((1, 5),), free=('pa',))
>>> [found[0], found[1], len(found[2]), found[3], found[4][0][0], found[4][0][1][0]]
[5, (1,), 2, (('pa', ()),), (), 'wrong']
""",
)

TOWNS = (
    """
>>> from unlikekeys.worlds import World
>>> world = World(('a', 'b'), (('ra', 'a', ('no', 'row')), ('rb', 'b', ('no', 'row'))), ((('ra', 'row'),), (('rb', 'row'),)), ((('ra', 'row'), ('rb', 'row')),), ())
>>> pa = ('pa', 'put', (), (('do', 'b', (('rb', 'no'),), (), (), 1, 3), ('do', 'a', (('ra', 'no'),), (('ra', 'row'),), (), 2, 3), ('say', 'done'), ('say', 'refused')))
>>> from unlikekeys.towns import Town
>>> town = Town(world, (pa,))
>>> [town.begin('pa', 'k'), town.begin('pa', 'l'), town.step(0), town.step(0), town.has_row('k'), town.has_row('l'), town.time, town.history(), town.back(), town.has_row('k'), town.doer(0)]
[0, 1, None, 'done', True, False, 4, ((1, 4, 'k', 'put', 'done'), (2, None, 'l', 'put', None)), None, False, ('pa', 1, False, 'here')]
""",
    """
>>> from unlikekeys.worlds import World
>>> world = World(('a', 'b'), (('ra', 'a', ('no', 'row')), ('rb', 'b', ('no', 'row'))), ((('ra', 'row'),), (('rb', 'row'),)), ((('ra', 'row'), ('rb', 'row')),), ())
>>> pa = ('pa', 'put', (), (('do', 'b', (('rb', 'no'),), (), (), 1, 3), ('do', 'a', (('ra', 'no'),), (('ra', 'row'),), (), 2, 3), ('say', 'done'), ('say', 'refused')))
>>> from unlikekeys.towns import Town
>>> Town(world, (pa,)).step(0)
raises NoDoer(value=0)
""",
)

HISTORIES = (
    """
>>> from unlikekeys.doubts import doubts, sure
>>> from unlikekeys.orders import explained
>>> history = ((1, 4, 'k', 'put', 'done'), (2, 3, 'k', 'look', 'none'), (5, 6, 'k', 'put', 'refused'))
>>> [explained(history), sure(history, 'k', 1), sure(history, 'k', 3), sure(history, 'k', 4), doubts(((1, 2, 'k', 'put', 'done'), (3, 4, 'k', 'put', 'done')))]
[(1, 0, 2), False, None, True, (0,)]
""",
    """
>>> from unlikekeys.orders import closed
>>> closed(((1, 2, 'k', 'put', 'done'), (3, 4, 'k', 'put', 'done')), 'k')
(((), False), ((0,), True))
""",
)

CHANGES = (
    """
>>> from unlikekeys.changes import planned
>>> deed = (('x', 'two'), ('y', 'one'))
>>> [planned((('x', 'a', 'one'), ('y', 'a', 'two')), deed)[:3], planned((('x', 'a', 'one'), ('y', 'b', 'two')), deed)[:2]]
[(1, 0, (('a', (('x', 'two'), ('y', 'one'))),)), (3, 1)]
""",
)

TEXTS = (
    r"""
>>> from unlikekeys.showing import show_run
>>> show_run((('begin', 'pa'), ('step', 0)))
'begin pa\nstep 0'
""",
    r"""
>>> from unlikekeys.reading import read_run
>>> read_run('begin pa\nstep')
raises BadText(line=1)
""",
)

DESKS = (
    r"""
>>> from unlikekeys.desk import Desk
>>> desk = Desk('houses a b\nslot ra a no row\nslot rb b no row\nbears ra=row\nbears rb=row\nnever ra=row rb=row', 'scheme pa put\ndo b rb=no : : : 1 3\ndo a ra=no : ra=row : : 2 3\nsay done\nsay refused')
>>> [desk.say('judge'), desk.say('begin pa k'), desk.say('step 0'), desk.say('step 0'), desk.say('stand k'), desk.say('history')]
['right 2', '0', 'on', 'done', 'row no', '1 3 k put done']
""",
    r"""
>>> from unlikekeys.desk import Desk
>>> Desk('houses a b\nslot ra a no row\nslot rb b no row\nbears ra=row\nbears rb=row\nnever ra=row rb=row', 'scheme pa put\ndo b rb=no : : : 1 3\ndo a ra=no : ra=row : : 2 3\nsay done\nsay refused').say('judge now')
raises NoLine(value='judge now')
""",
)


class Examples(unittest.TestCase):
    def test_section_4(self):
        for text in WORLDS:
            check_example(self, text)

    def test_section_5(self):
        for text in SCHEMES:
            check_example(self, text)

    def test_section_6(self):
        for text in RUNS:
            check_example(self, text)

    def test_section_7(self):
        for text in CASES:
            check_example(self, text)

    def test_section_8(self):
        for text in JUDGING:
            check_example(self, text)

    def test_section_9(self):
        for text in BARRING:
            check_example(self, text)

    def test_section_10(self):
        for text in MENDING:
            check_example(self, text)

    def test_section_12(self):
        for text in TOWNS:
            check_example(self, text)

    def test_section_13(self):
        for text in HISTORIES:
            check_example(self, text)

    def test_section_14(self):
        for text in CHANGES:
            check_example(self, text)

    def test_section_15(self):
        for text in TEXTS:
            check_example(self, text)

    def test_section_16(self):
        for text in DESKS:
            check_example(self, text)
