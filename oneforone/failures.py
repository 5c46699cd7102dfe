"""The errors of arguments that are right by themselves: what does not hold, or is not there."""

from oneforone.errors import BoardError


class NotInBag(BoardError):
    def __init__(self, value):
        self.value = value


class NotEven(BoardError):
    def __init__(self, witness):
        self.witness = witness


class NotSeen(BoardError):
    def __init__(self, witness):
        self.witness = witness


class TooSmall(BoardError):
    def __init__(self, size):
        self.size = size


class Apart(BoardError):
    def __init__(self, one, other):
        self.one = one
        self.other = other


class NoStep(BoardError):
    def __init__(self, ahead, kind):
        self.ahead = ahead
        self.kind = kind


class NotThere(BoardError):
    def __init__(self, at):
        self.at = at


class NoKind(BoardError):
    def __init__(self, at):
        self.at = at


class NoMove(BoardError):
    def __init__(self, one, other):
        self.one = one
        self.other = other


class SameMarks(BoardError):
    def __init__(self, one, other):
        self.one = one
        self.other = other


class NotTwo(BoardError):
    def __init__(self, many):
        self.many = many


class NoMixture(BoardError):
    def __init__(self, one, other):
        self.one = one
        self.other = other


class Disordered(BoardError):
    def __init__(self, witness):
        self.witness = witness


class Broken(BoardError):
    def __init__(self, witness):
        self.witness = witness


class TooMany(BoardError):
    def __init__(self, count):
        self.count = count


class NotALink(BoardError):
    def __init__(self, link):
        self.link = link


class UnevenReader(BoardError):
    def __init__(self, reader, size):
        self.reader = reader
        self.size = size


class UnseenReader(BoardError):
    def __init__(self, reader, size):
        self.reader = reader
        self.size = size


class UnsharpReader(BoardError):
    def __init__(self, reader, size):
        self.reader = reader
        self.size = size


class UnclearReader(BoardError):
    def __init__(self, reader, size):
        self.reader = reader
        self.size = size


class Barred(BoardError):
    def __init__(self, stint):
        self.stint = stint


class Rigid(BoardError):
    def __init__(self, chosen):
        self.chosen = chosen


class EvenBoard(BoardError):
    pass


class SharpBoard(BoardError):
    pass


class SumBoard(BoardError):
    pass


class Hidden(BoardError):
    def __init__(self, move):
        self.move = move


class NoAsks(BoardError):
    def __init__(self, reader):
        self.reader = reader


class Pieces(BoardError):
    def __init__(self, reader):
        self.reader = reader


class NotCounts(BoardError):
    def __init__(self, reader):
        self.reader = reader


class NoSuchTrade(BoardError):
    def __init__(self, out, into):
        self.out = out
        self.into = into


class NotOpen(BoardError):
    def __init__(self, stint):
        self.stint = stint


class NotDials(BoardError):
    def __init__(self, reader):
        self.reader = reader


class NotLive(BoardError):
    def __init__(self, joint):
        self.joint = joint


class Beyond(BoardError):
    def __init__(self, least, greatest):
        self.least = least
        self.greatest = greatest


class NoFilling(BoardError):
    def __init__(self, places):
        self.places = places


class OnePlace(BoardError):
    pass


class StuckTie(BoardError):
    def __init__(self, tie):
        self.tie = tie


class NoRing(BoardError):
    pass


class NotJoined(BoardError):
    def __init__(self, town):
        self.town = town


class SameRoad(BoardError):
    def __init__(self, road):
        self.road = road


class OutRow(BoardError):
    def __init__(self, row):
        self.row = row


class InRow(BoardError):
    def __init__(self, row):
        self.row = row


class AlreadyHeld(BoardError):
    pass


class NothingHeld(BoardError):
    pass


class NothingToUndo(BoardError):
    pass


class NothingToRedo(BoardError):
    pass


class NotOneDial(BoardError):
    pass


class Twice(BoardError):
    def __init__(self, stint):
        self.stint = stint
