"""The examples of the document, as they stand there."""

import unittest

from tests.examples import check_example

WORLDS = (
    """
>>> from unlikekeys.worlds import World
>>> world = World(('a', 'b'), (('ra', 'a', ('no', 'row')), ('rb', 'b', ('no', 'row'))), ((('ra', 'row'),), (('rb', 'row'),)), ((('ra', 'row'), ('rb', 'row')),), ())
>>> [world.first, world.stands, world.has_row(('no', 'row')), world.is_broken(('row', 'row')), world.made(('no', 'no'), (('rb', 'row'),))]
[('no', 'no'), (('no', 'no'), ('no', 'row'), ('row', 'no'), ('row', 'row')), True, True, ('no', 'row')]
""",
    """
>>> from unlikekeys.worlds import World
>>> World(('a',), (), (), (), ())
raises BadWorld(value=(('a',), (), (), (), ()))
""",
)

SCHEMES = (
    """
>>> from unlikekeys.worlds import World
>>> world = World(('a', 'b'), (('ra', 'a', ('no', 'row')), ('rb', 'b', ('no', 'row'))), ((('ra', 'row'),), (('rb', 'row'),)), ((('ra', 'row'), ('rb', 'row')),), ())
>>> pa = ('pa', 'put', (), (('do', 'b', (('rb', 'no'),), (), (), 1, 3), ('do', 'a', (('ra', 'no'),), (('ra', 'row'),), (), 2, 3), ('say', 'done'), ('say', 'refused')))
>>> from unlikekeys.schemes import is_schemes
>>> [is_schemes(world, (pa,)), is_schemes(world, (pa, pa)), is_schemes(world, pa)]
[True, False, False]
""",
)


class Examples(unittest.TestCase):
    def test_section_4(self):
        for text in WORLDS:
            check_example(self, text)

    def test_section_5(self):
        for text in SCHEMES:
            check_example(self, text)
