"""The errors of the package."""


class AskError(ValueError):
    """The base class of all errors of the package."""


class BadPlan(AskError):
    """Some values are not the columns and tables of a plan."""


class BadFact(AskError):
    """A value is not a fact of the plan."""


class BadLook(AskError):
    """The value at an index is not a look that is possible there."""

    def __init__(self, at):
        super().__init__(f"no such look is possible: index {at}")
        self.at = at


class BadStore(AskError):
    """A value is not a list of facts, or stores have different plans."""


class BadAsk(AskError):
    """A value is not an ask of the plan."""


class TooMany(AskError):
    """There are more of something than the most that is possible."""

    def __init__(self, most):
        super().__init__(f"more than {most}")
        self.most = most


class BadPrices(AskError):
    """A value is not prices, or not a price."""


class NotForSale(AskError):
    """A thread has no look on the shelf or for sale."""

    def __init__(self, thread):
        super().__init__(f"no look for sale: thread {thread!r}")
        self.thread = thread


class BadAnswers(AskError):
    """The value at an index is not an ask with some of its rows."""

    def __init__(self, at):
        super().__init__(f"no ask with rows: index {at}")
        self.at = at


class Contradiction(AskError):
    """The answers are not possible, as the one at an index shows."""

    def __init__(self, at):
        super().__init__(f"answers that no store has: index {at}")
        self.at = at


class NoBuyer(AskError):
    """A name is not a customer's, or is not free for a new customer."""

    def __init__(self, name):
        super().__init__(f"no such customer: {name!r}")
        self.name = name


class BadDeed(AskError):
    """The deed at an index cannot be done."""

    def __init__(self, at):
        super().__init__(f"no such deed is possible: index {at}")
        self.at = at


class BadStory(AskError):
    """A row of a story is wrong."""

    def __init__(self, row):
        super().__init__(f"a wrong story: row {row}")
        self.row = row


class BadText(AskError):
    """A line of a text is wrong."""

    def __init__(self, row):
        super().__init__(f"a wrong text: line {row}")
        self.row = row
