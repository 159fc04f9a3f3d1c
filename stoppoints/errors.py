"""The errors of the package: each stands directly under StopError."""


class StopError(ValueError):
    """Something that was asked for cannot be done."""


class InvalidTime(StopError):
    """A value is no time."""

    def __init__(self, value):
        super().__init__("not a time")
        self.value = value


class InvalidName(StopError):
    """A value is no name."""

    def __init__(self, value):
        super().__init__("not a name")
        self.value = value


class InvalidTurns(StopError):
    """A value is no number of turns that can be taken here."""

    def __init__(self, value):
        super().__init__("not a number of turns")
        self.value = value


class InvalidCode(StopError):
    """A value is no code; None stands for a code that is too great or has too few parts."""

    def __init__(self, value):
        super().__init__("not a code")
        self.value = value


class InvalidText(StopError):
    """A text does not say what is looked for in it."""

    def __init__(self, text):
        super().__init__("not a text of this kind")
        self.text = text


class InvalidFunctions(StopError):
    """The functions of a program are wrong, those of this name or, with None, all together."""

    def __init__(self, name):
        super().__init__("not the functions of a program")
        self.name = name


class UnknownName(StopError):
    """There is nothing of this name."""

    def __init__(self, name):
        super().__init__("not a known name")
        self.name = name


class InvalidChoice(StopError):
    """The choice at this index cannot be taken."""

    def __init__(self, index):
        super().__init__("not a choice that can be taken")
        self.index = index


class LimitExceeded(StopError):
    """More was asked for than this limit allows."""

    def __init__(self, limit):
        super().__init__("above the limit")
        self.limit = limit


class InvalidNumber(StopError):
    """A value is no number that can be taken here."""

    def __init__(self, value):
        super().__init__("not a number of this kind")
        self.value = value


class InvalidTrail(StopError):
    """The entries of a trail are wrong, the one at this index or, with None, all together."""

    def __init__(self, index):
        super().__init__("not a trail")
        self.index = index


class InvalidPlace(StopError):
    """A value is no place that can be taken here."""

    def __init__(self, value):
        super().__init__("not a place")
        self.value = value


class InvalidRule(StopError):
    """A value is no rule, or no part of one."""

    def __init__(self, value):
        super().__init__("not a rule")
        self.value = value


class InvalidLimit(StopError):
    """A value is no limit."""

    def __init__(self, value):
        super().__init__("not a limit")
        self.value = value


class InvalidCosts(StopError):
    """A value is no list of costs for the candidates."""

    def __init__(self, value):
        super().__init__("not the costs of candidates")
        self.value = value


class InvalidLoop(StopError):
    """A value is no number of a loop that can be changed."""

    def __init__(self, value):
        super().__init__("not a loop that can be changed")
        self.value = value


class CannotInline(StopError):
    """The calls of this function cannot become its code."""

    def __init__(self, name):
        super().__init__("not a function that can be inlined")
        self.name = name


class OverLimit(StopError):
    """A change would bring the span of this name above its limit."""

    def __init__(self, name, needed):
        super().__init__("above the limit of a name")
        self.name = name
        self.needed = needed


class NothingToUndo(StopError):
    """There is no change that could be taken back."""

    def __init__(self):
        super().__init__("nothing to undo")


class NothingToRedo(StopError):
    """There is no change that could be done again."""

    def __init__(self):
        super().__init__("nothing to redo")


class InvalidLine(StopError):
    """The line at this index is wrong; None stands for all lines together."""

    def __init__(self, index):
        super().__init__("not a line of notes")
        self.index = index


class InvalidCommand(StopError):
    """There is no command of this word with so many words."""

    def __init__(self, command):
        super().__init__("not a command")
        self.command = command


class InvalidProgram(StopError):
    """A value is no program."""

    def __init__(self, value):
        super().__init__("not a program")
        self.value = value
