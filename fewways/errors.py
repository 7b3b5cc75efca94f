"""The refusals: one class for each, all straight under FewError."""


class FewError(ValueError):
    """Any refusal."""


class NoWeb(FewError):
    """What was handed in as a web is none."""


class NoPlace(FewError):
    """What was handed in as a place, or as places, of a web is none."""


class NoWay(FewError):
    """What was handed in as a way of a web is none."""


class NoParting(FewError):
    """What was handed in as a parting is none, or there is none along what was handed in."""


class TooMany(FewError):
    """There are more places than can be dealt with."""


class NoForest(FewError):
    """A web that was handed in as a forest has a ring."""


class NoPlan(FewError):
    """What was handed in as a plan is none."""


class NoOneWay(FewError):
    """What was handed in as a one-way web is none."""


class NoOrder(FewError):
    """A one-way web that was to have an order has none."""


class NoText(FewError):
    """What was to be read is not written as it should be."""


class NoDeed(FewError):
    """A deed of a desk can't be done as things stand."""


class NoRow(FewError):
    """What a desk was told is no row."""
