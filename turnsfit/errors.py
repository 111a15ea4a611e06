"""Every error of the package."""


class FitError(Exception):
    """What all errors but NoName are derived from."""


class InvalidNode(FitError):
    def __init__(self, at):
        self.at = at


class InvalidPlace(FitError):
    def __init__(self, at):
        self.at = at


class InvalidFormula(FitError):
    def __init__(self, at):
        self.at = at


class InvalidSchema(FitError):
    def __init__(self, at):
        self.at = at


class InvalidTable(FitError):
    def __init__(self, at):
        self.at = at


class InvalidTurning(FitError):
    def __init__(self, at):
        self.at = at


class InvalidEdit(FitError):
    def __init__(self, at):
        self.at = at


class InvalidAsk(FitError):
    def __init__(self, at):
        self.at = at


class InvalidText(FitError):
    def __init__(self, at):
        self.at = at


class InvalidSize(FitError):
    def __init__(self, word):
        self.word = word


class InvalidCommand(FitError):
    """What is no line of a call."""


class Refused(FitError):
    def __init__(self, word):
        self.word = word


class NoName(KeyError):
    def __init__(self, name):
        self.name = name
