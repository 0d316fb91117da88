"""The refusals: each a class straight under HeapError, none under another one."""


class HeapError(ValueError):
    def __init__(self, text):
        ValueError.__init__(self, text)

    # Written out in each class, as a class is not asked for its own name here.
    def called(self):
        return "HeapError"


class BadHand(HeapError):
    def called(self):
        return "BadHand"


class BadName(HeapError):
    def called(self):
        return "BadName"


class BadField(HeapError):
    def called(self):
        return "BadField"


class BadCount(HeapError):
    def called(self):
        return "BadCount"


class NoRoom(HeapError):
    def called(self):
        return "NoRoom"


class TooManyWords(HeapError):
    def called(self):
        return "TooManyWords"


class RoundOn(HeapError):
    def called(self):
        return "RoundOn"


class NoRound(HeapError):
    def called(self):
        return "NoRound"


class BadText(HeapError):
    def __init__(self, text, row):
        HeapError.__init__(self, text)
        self.row = row

    def called(self):
        return "BadText"


class BadView(HeapError):
    def called(self):
        return "BadView"


class BadAddress(HeapError):
    def called(self):
        return "BadAddress"


class BadPaper(HeapError):
    def called(self):
        return "BadPaper"


class BadLog(HeapError):
    def __init__(self, text, row):
        HeapError.__init__(self, text)
        self.row = row

    def called(self):
        return "BadLog"
