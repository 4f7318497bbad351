"""Which sorts of deeds are counted [2.4]."""

from landways.errors import BadCounted


class Counted:
    """Whether deeds that grant, that leave a couple untold, and that give up are counted."""

    def __init__(self, grants=True, untold=True, giving_up=False):
        if not isinstance(grants, bool):
            raise BadCounted("grants")
        if not isinstance(untold, bool):
            raise BadCounted("untold")
        if not isinstance(giving_up, bool):
            raise BadCounted("giving up")
        self.grants = grants
        self.untold = untold
        self.giving_up = giving_up

    def __eq__(self, other):
        return (isinstance(other, Counted) and self.grants == other.grants
                and self.untold == other.untold and self.giving_up == other.giving_up)

    def is_within(self, other):
        """Whether the other counts each sort that this one counts."""
        return ((other.grants or not self.grants) and (other.untold or not self.untold)
                and (other.giving_up or not self.giving_up))


def meant(counted):
    """The Counted that is meant: the usual one where None is passed."""
    return Counted() if counted is None else counted


def counteds():
    """Yield all eight, by grants, then untold, then giving_up, False ahead of True."""
    for grants in (False, True):
        for untold in (False, True):
            for giving_up in (False, True):
                yield Counted(grants, untold, giving_up)
