"""The refusals, one class for each."""


class TariffError(ValueError):
    pass


class BadBook(TariffError):
    pass


class BadPlace(TariffError):
    pass


class BadAmount(TariffError):
    pass


class BadMoney(TariffError):
    pass


class BadText(TariffError):
    pass
