"""The errors that name a wrong argument, each with the attribute `given`, and the base of all errors."""


class BoardError(ValueError):
    """The base of all errors of the package."""


class InvalidValues(BoardError):
    def __init__(self, given):
        self.given = given


class InvalidSize(BoardError):
    def __init__(self, given):
        self.given = given


class InvalidBag(BoardError):
    def __init__(self, given):
        self.given = given


class InvalidValue(BoardError):
    def __init__(self, given):
        self.given = given


class InvalidSigns(BoardError):
    def __init__(self, given):
        self.given = given


class InvalidOther(BoardError):
    def __init__(self, given):
        self.given = given


class InvalidLine(BoardError):
    def __init__(self, given):
        self.given = given


class InvalidChange(BoardError):
    def __init__(self, given):
        self.given = given


class InvalidSign(BoardError):
    def __init__(self, given):
        self.given = given


class InvalidKind(BoardError):
    def __init__(self, given):
        self.given = given


class InvalidSteps(BoardError):
    def __init__(self, given):
        self.given = given


class InvalidLog(BoardError):
    def __init__(self, given):
        self.given = given


class InvalidKinds(BoardError):
    def __init__(self, given):
        self.given = given


class InvalidMove(BoardError):
    def __init__(self, given):
        self.given = given


class InvalidRounds(BoardError):
    def __init__(self, given):
        self.given = given


class InvalidMarks(BoardError):
    def __init__(self, given):
        self.given = given


class InvalidSet(BoardError):
    def __init__(self, given):
        self.given = given


class InvalidShift(BoardError):
    def __init__(self, given):
        self.given = given


class InvalidDials(BoardError):
    def __init__(self, given):
        self.given = given


class InvalidCaps(BoardError):
    def __init__(self, given):
        self.given = given


class InvalidModulus(BoardError):
    def __init__(self, given):
        self.given = given


class InvalidThings(BoardError):
    def __init__(self, given):
        self.given = given


class InvalidWord(BoardError):
    def __init__(self, given):
        self.given = given


class InvalidCalendar(BoardError):
    def __init__(self, given):
        self.given = given


class InvalidStints(BoardError):
    def __init__(self, given):
        self.given = given


class InvalidReaders(BoardError):
    def __init__(self, given):
        self.given = given


class InvalidReader(BoardError):
    def __init__(self, given):
        self.given = given


class InvalidAsk(BoardError):
    def __init__(self, given):
        self.given = given


class InvalidHistory(BoardError):
    def __init__(self, given):
        self.given = given


class InvalidStint(BoardError):
    def __init__(self, given):
        self.given = given


class InvalidLot(BoardError):
    def __init__(self, given):
        self.given = given


class InvalidJoint(BoardError):
    def __init__(self, given):
        self.given = given


class InvalidRows(BoardError):
    def __init__(self, given):
        self.given = given


class InvalidInside(BoardError):
    def __init__(self, given):
        self.given = given


class InvalidSource(BoardError):
    def __init__(self, given):
        self.given = given


class InvalidScript(BoardError):
    def __init__(self, given):
        self.given = given


class InvalidNumbers(BoardError):
    def __init__(self, given):
        self.given = given


class InvalidDeeds(BoardError):
    def __init__(self, given):
        self.given = given


class InvalidPlaces(BoardError):
    def __init__(self, given):
        self.given = given


class InvalidTies(BoardError):
    def __init__(self, given):
        self.given = given


class InvalidFilling(BoardError):
    def __init__(self, given):
        self.given = given


class InvalidTie(BoardError):
    def __init__(self, given):
        self.given = given


class InvalidRing(BoardError):
    def __init__(self, given):
        self.given = given


class InvalidNumber(BoardError):
    def __init__(self, given):
        self.given = given


class InvalidWeights(BoardError):
    def __init__(self, given):
        self.given = given


class InvalidCuts(BoardError):
    def __init__(self, given):
        self.given = given


class InvalidPrices(BoardError):
    def __init__(self, given):
        self.given = given


class InvalidRests(BoardError):
    def __init__(self, given):
        self.given = given


class InvalidTowns(BoardError):
    def __init__(self, given):
        self.given = given


class InvalidRoads(BoardError):
    def __init__(self, given):
        self.given = given


class InvalidRoad(BoardError):
    def __init__(self, given):
        self.given = given


class InvalidLots(BoardError):
    def __init__(self, given):
        self.given = given


class InvalidQueues(BoardError):
    def __init__(self, given):
        self.given = given


class InvalidLength(BoardError):
    def __init__(self, given):
        self.given = given


class InvalidCreases(BoardError):
    def __init__(self, given):
        self.given = given


class InvalidPlace(BoardError):
    def __init__(self, given):
        self.given = given


class InvalidAxes(BoardError):
    def __init__(self, given):
        self.given = given


class InvalidRow(BoardError):
    def __init__(self, given):
        self.given = given


class InvalidDeed(BoardError):
    def __init__(self, given):
        self.given = given
