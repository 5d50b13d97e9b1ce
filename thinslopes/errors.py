"""The errors of the whole program; DOC.md says which function raises which one, and with what."""


class SlopeError(ValueError):
    pass


class BadRatio(SlopeError):
    def __init__(self, what):
        self.what = what


class BadMould(SlopeError):
    def __init__(self, what, index):
        self.what = what
        self.index = index


class BadLetter(SlopeError):
    def __init__(self, letter):
        self.letter = letter


class BadNumbers(SlopeError):
    def __init__(self, index):
        self.index = index


class BadCell(SlopeError):
    def __init__(self, cell):
        self.cell = cell


class BadOrder(SlopeError):
    def __init__(self, what):
        self.what = what


class BadWeb(SlopeError):
    def __init__(self, what, index):
        self.what = what
        self.index = index


class BadPoint(SlopeError):
    def __init__(self, point):
        self.point = point


class BadTie(SlopeError):
    def __init__(self, tie):
        self.tie = tie


class BadGrouping(SlopeError):
    def __init__(self, index):
        self.index = index


class BadCount(SlopeError):
    def __init__(self, count):
        self.count = count


class BadAsk(SlopeError):
    def __init__(self, index, what):
        self.index = index
        self.what = what


class BadText(SlopeError):
    def __init__(self, index):
        self.index = index


class BadAnswers(SlopeError):
    def __init__(self, index, what):
        self.index = index
        self.what = what


class BadModulus(SlopeError):
    def __init__(self, modulus):
        self.modulus = modulus


class NotFree(SlopeError):
    pass


class NotColumns(SlopeError):
    def __init__(self, index):
        self.index = index


class NoGroup(SlopeError):
    def __init__(self, group):
        self.group = group


class BadWalk(SlopeError):
    def __init__(self, what):
        self.what = what


class NoAnswer(SlopeError):
    def __init__(self, answer):
        self.answer = answer


class CantTake(SlopeError):
    def __init__(self, letter):
        self.letter = letter


class BadMost(SlopeError):
    def __init__(self, most):
        self.most = most


class TooMany(SlopeError):
    def __init__(self, count):
        self.count = count


class BadBudget(SlopeError):
    def __init__(self, what):
        self.what = what


class BadLines(SlopeError):
    def __init__(self, index):
        self.index = index


class BadBlock(SlopeError):
    def __init__(self, what):
        self.what = what


class BadWay(SlopeError):
    def __init__(self, way):
        self.way = way


class BadPoints(SlopeError):
    def __init__(self, index):
        self.index = index


class BadPlan(SlopeError):
    def __init__(self, path, what):
        self.path = path
        self.what = what


class BadPath(SlopeError):
    pass


class BadStranger(SlopeError):
    def __init__(self, index):
        self.index = index


class BadPoly(SlopeError):
    def __init__(self, what, index):
        self.what = what
        self.index = index


class UnlikePolys(SlopeError):
    pass


class BadValues(SlopeError):
    def __init__(self, index):
        self.index = index


class NoEntry(SlopeError):
    def __init__(self, entry):
        self.entry = entry


class NoResult(SlopeError):
    def __init__(self, result):
        self.result = result


class BadProgram(SlopeError):
    def __init__(self, what, index):
        self.what = what
        self.index = index


class BadChain(SlopeError):
    pass


class BadAlong(SlopeError):
    def __init__(self, index):
        self.index = index


class TooGreat(SlopeError):
    def __init__(self, many):
        self.many = many


class BadShape(SlopeError):
    pass


class BadEdit(SlopeError):
    def __init__(self, index, what):
        self.index = index
        self.what = what


class BadGoal(SlopeError):
    def __init__(self, what):
        self.what = what


class BadBench(SlopeError):
    pass


class Clashing(SlopeError):
    def __init__(self, weights):
        self.weights = weights


class NoAnswers(SlopeError):
    pass


class NothingDone(SlopeError):
    pass
