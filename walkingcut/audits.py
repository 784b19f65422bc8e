"""An audit: a log and claims that grow step by step, and steps that can be taken back."""

from walkingcut.claims import bar, can_be
from walkingcut.errors import Barred, NoSpill, NotClaimed, NothingDone, Taken, TooMany
from walkingcut.kinds import check_place, check_vial
from walkingcut.logs import MOST_SPILLS, is_spill, log_of
from walkingcut.telling import places_for, sure, vials_for


class Audit:
    """A log and claims about it that can all be true."""

    def __init__(self, log):
        # The pairs of a log and claims, from the first one to what is now. None of them is ever changed, so that
        # copies can share them, and what was is brought back by one assignment.
        self._states = ((log_of(log.many, log.spills), ()),)

    def _step(self, log, claims):
        self._states = self._states + ((log, claims),)

    def _claims_with(self, vial, place):
        """The claims and one more, whether they can be true or not."""
        check_vial(self.log(), vial)
        check_place(self.log(), place)
        claims = self.claims()
        if any([vial == claimed or place == taken for claimed, taken in claims]):
            raise Taken()
        return tuple(sorted(claims + ((vial, place),)))

    def claim(self, vial, place):
        """A claim more."""
        claims = self._claims_with(vial, place)
        if not can_be(self.log(), claims):
            raise Barred()
        self._step(self.log(), claims)

    def drop(self, vial):
        """The claim of a vial goes."""
        check_vial(self.log(), vial)
        claims = self.claims()
        left = tuple([(claimed, place) for claimed, place in claims if claimed != vial])
        if left == claims:
            raise NotClaimed()
        self._step(self.log(), left)

    def spill(self, first, last, hand):
        """A spill more, behind the others; all claims are dropped."""
        log = self.log()
        if not is_spill(log.many, (first, last, hand)):
            raise NoSpill()
        if len(log.spills) >= MOST_SPILLS:
            raise TooMany(MOST_SPILLS)
        self._step(log_of(log.many, log.spills + ((first, last, hand),)), ())

    def log(self):
        """The log."""
        return self._states[-1][0]

    def claims(self):
        """The claims."""
        return self._states[-1][1]

    def places(self, vial):
        """The lot of the places where a vial can be."""
        return places_for(self.log(), self.claims(), vial)

    def vials(self, place):
        """The lot of the vials that can be in a place."""
        return vials_for(self.log(), self.claims(), place)

    def sure(self):
        """The claims that are sure."""
        return sure(self.log(), self.claims())

    def try_claim(self, vial, place):
        """None if this could be claimed now, otherwise a bar."""
        return bar(self.log(), self._claims_with(vial, place))

    def back(self):
        """Takes back the last step that is not taken back."""
        if self.depth() == 0:
            raise NothingDone()
        self._states = self._states[:-1]

    def depth(self):
        """How many steps can be taken back."""
        return len(self._states) - 1

    def copy(self):
        """Another audit that goes on apart from this one."""
        other = Audit(self.log())
        other._states = self._states
        return other

    def trying(self, action):
        """What an action returns that is called with the audit, behind which all is as it was."""
        states = self._states
        try:
            return action(self)
        finally:
            self._states = states
