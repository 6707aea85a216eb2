"""Trials on a yard: blocks behind which it is as it was, unless it is kept."""


class Trial:
    """What a yard was when a block was entered, and whether it is kept as it is."""

    def __init__(self, yard):
        self.yard = yard
        self.kept = None
        self.outer = None
        self.names = ()
        self.text = ""
        self.done = 0
        self.deeds = ()
        self.moment = None
        self.past = ()
        self.undone = ()

    def __enter__(self):
        yard = self.yard
        self.names = yard.names
        self.text = yard.text
        self.done = yard.done
        self.deeds = yard.deeds
        self.moment = yard.moment
        self.past = yard.past
        self.undone = yard.undone
        self.outer = yard.innermost
        yard.innermost = self
        return yard

    def __exit__(self, kind, value, trace):
        yard = self.yard
        if kind is not None or self.kept is None:
            yard.names = self.names
            yard.text = self.text
            yard.done = self.done
            yard.deeds = self.deeds
            yard.moment = self.moment
            yard.past = self.past
            yard.undone = self.undone
        yard.innermost = self.outer
