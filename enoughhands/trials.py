"""Blocks in which a bench is tried: what is done in them is taken back unless it is kept."""


class Trial:
    """A block of a bench, which is entered once."""

    def __init__(self, bench):
        self.bench = bench
        self.outer = None
        # Not None if what is done in the block is kept.
        self.kept = None

    def __enter__(self):
        bench = self.bench
        self.outer = bench.block
        self.works = bench.works
        self.day = bench.day
        self.away = bench.away
        self.level = bench.level
        self.done = bench.done
        self.is_finished = bench.is_finished
        self.deeds = bench.deeds
        self.undone = bench.undone
        bench.block = self
        return bench

    def __exit__(self, kind, value, trace):
        bench = self.bench
        bench.block = self.outer
        if kind is not None or self.kept is None:
            bench.works = self.works
            bench.day = self.day
            bench.away = self.away
            bench.level = self.level
            bench.done = self.done
            bench.is_finished = self.is_finished
            bench.deeds = self.deeds
            bench.undone = self.undone
