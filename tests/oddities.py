"""Things of any kind, for the tests of refusals."""


class AlikeToAll:
    """Says of everything that it is alike to it."""

    def __eq__(self, other):
        return True

    def __ne__(self, other):
        return False

    __hash__ = None


class Stubborn:
    """Can't be compared, counted, gone through, shown, or taken for a truth or a key."""

    def refuse(self, *rest):
        raise RuntimeError("asked a thing that answers nothing")

    __eq__ = __ne__ = __lt__ = __le__ = __gt__ = __ge__ = refuse
    __hash__ = __bool__ = __len__ = __iter__ = __getitem__ = __contains__ = refuse
    __repr__ = __str__ = __int__ = __index__ = __call__ = refuse


def deep(many):
    """A list in a list, and so on, MANY deep."""
    thing = []
    for at in range(many):
        thing = [thing]
    return thing


def odd_things():
    """No name, no row of things, no number of hours is among these."""
    return [
        None, True, False, -1, 10 ** 400, b"", b"lamp", "", "Lamp", "lamp on", "\n",
        ["lamp"], {"lamp": "on"}, {"lamp"}, frozenset(("lamp",)), range(3), ("lamp",), ((),), (None,),
        deep(9), object(), len, str, AlikeToAll(), Stubborn(), (Stubborn(),), (AlikeToAll(), AlikeToAll()),
        ("lamp", Stubborn()), (("lamp", AlikeToAll()),), ((Stubborn(), ("on", "off")),),
        (("lamp", (Stubborn(), AlikeToAll())),), ValueError("lamp"),
    ]
