"""The errors with which the program refuses what it is handed."""


class RiseError(ValueError):
    """Something handed in is refused."""


class BadWord(RiseError):
    """It is no text of the letters u and d alone."""


class BadNumber(RiseError):
    """It is not the number of an order."""


class BadOrder(RiseError):
    """It is no order for the word."""


class BadRow(RiseError):
    """It is no row such as is asked for."""
