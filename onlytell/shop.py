"""A shop, which keeps a store on which deeds are run and shown, and previews of rows."""

from onlytell.acting import step, walked, worths_read
from onlytell.checking import check_deed_and_input, check_memory, check_row, check_store
from onlytell.errors import BadSwitch, OtherPreview, Showing, Spoilt
from onlytell.stamps import reads
from onlytell.tellings import Telling


class Shop:
    """A store on which deeds are run, or shown while the shop shows; BadStore, BadMemory."""

    def __init__(self, book, worths, *, memory=()):
        check_store(book, worths)
        check_memory(book, memory)
        self.book = book
        self.memory = memory
        self.worths = worths
        self.left = ()
        self.is_showing = False
        self.done = ()
        # How the shop stood when the innermost block that it is in was entered, or None.
        self.moment = None

    def __eq__(self, other):
        if not isinstance(other, Shop):
            return False
        if self.book != other.book or self.memory != other.memory:
            return False
        return (self.worths, self.left, self.is_showing) == (other.worths, other.left, other.is_showing)

    def do(self, deed, it=0):
        """Show the letter while the shop shows, otherwise run it; its Telling. NoDeed, BadInput."""
        check_deed_and_input(self.book, deed, it)
        machine = ("show", self.memory) if self.is_showing else ("run",)
        telling, state = step(self.book, machine, (self.worths, self.left), (deed, it))
        self.worths, self.left = state
        if not self.is_showing:
            self.done = self.done + ((deed, it),)
        return Telling(self.book, telling)

    def switch(self, on):
        """From now on show, or run; nothing is remembered. BadSwitch."""
        if not isinstance(on, bool):
            raise BadSwitch(on)
        self.is_showing = on
        self.left = ()

    def preview(self, row):
        """The Preview of a run of the row from the present worths; BadRow."""
        check_row(self.book, row)
        return Preview(self.book, self.worths, row)

    def make(self, preview):
        """Run the row of the preview if it would tell the same; how many letters it has.

        OtherPreview, Showing, Spoilt.
        """
        self._check_preview(preview)
        if self.is_showing:
            raise Showing(None)
        tellings, state = walked(self.book, ("run",), self.worths, preview.row)
        for number, telling in enumerate(tellings):
            if telling != preview.tellings[number]:
                raise Spoilt(number)
        self.worths = state[0]
        self.done = self.done + preview.row
        return len(preview.row)

    def holds(self, preview):
        """Whether all that the preview looked at is as it was; OtherPreview."""
        self._check_preview(preview)
        now = worths_read(self.book, (self.worths, ()))
        return all([now[key] == worth for key, worth in preview.looked])

    def showing(self):
        """A Block, in which the shop shows."""
        return Block(self)

    def tried(self, look):
        """What look returns, called with the shop in a block in which it shows."""
        with self.showing() as held:
            return look(held)

    def copy(self):
        """An independent Shop that is alike in all things, as if all blocks had been left."""
        outermost = self
        moment = self.moment
        while moment is not None:
            outermost = moment
            moment = moment.elder
        other = Shop(self.book, self.worths, memory=self.memory)
        other.left = outermost.left
        other.is_showing = outermost.is_showing
        other.done = self.done
        return other

    def _check_preview(self, value):
        if not isinstance(value, Preview) or value.book != self.book:
            raise OtherPreview(value)


class Preview:
    """What a run of a row would tell from these worths, and which of them it reads; shops alone make it."""

    def __init__(self, book, worths, row):
        now = worths_read(book, (worths, ()))
        self.book = book
        self.row = row
        self.tellings = walked(book, ("run",), worths, row)[0]
        self.looked = tuple([(key, now[key]) for key in reads(book, worths, row)])


class Moment:
    """How a shop stood when a block was entered, and the moment of the block around it, or None."""

    def __init__(self, shop):
        self.is_showing = shop.is_showing
        self.left = shop.left
        self.elder = shop.moment


class Block:
    """A block in which a shop shows; each time that it is entered, it is a new one."""

    def __init__(self, shop):
        self.shop = shop

    def __enter__(self):
        shop = self.shop
        shop.moment = Moment(shop)
        shop.switch(True)
        return shop

    def __exit__(self, kind, value, trace):
        shop = self.shop
        shop.is_showing = shop.moment.is_showing
        shop.left = shop.moment.left
        shop.moment = shop.moment.elder
