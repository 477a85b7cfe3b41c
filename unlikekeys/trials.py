"""Trials: blocks behind which a town is as it was ahead of them, unless they are kept."""


class Block:
    """A block of a trial, with what the town was ahead of it."""

    def __init__(self, state, outer):
        self.state = state
        # The block of the same trial that it stands in, None if there is none.
        self.outer = outer
        # None until it is kept, then True: the way out of a block may ask attributes for None only (L6 With).
        self.kept = None


class Trial:
    """What a `with` takes for a trial of a town."""

    def __init__(self, town):
        self.town = town
        # The innermost block that is not left yet, None if there is none.
        self.block = None

    def __enter__(self):
        self.block = Block(self.town.state, self.block)
        return self

    def __exit__(self, kind, value, trace):
        if kind is not None or self.block.kept is None:
            self.town.state = self.block.state
            self.town.time = self.block.state.time
            self.town.known = self.block.state.known
            self.town.wrongs = self.block.state.wrongs
        self.block = self.block.outer

    def keep(self):
        """Keep what happens in the block, if no error leaves it."""
        if self.block is not None:
            self.block.kept = True
