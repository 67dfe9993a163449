"""The errors that the package raises."""


class CopyError(ValueError):
    """The base of all errors of the package."""


class InvalidFolders(CopyError):
    """A value is not a tuple of 1 to 20 different names."""


class InvalidCopy(CopyError):
    """A value is not a copy."""


class InvalidScript(CopyError):
    """A value is not a script, or not one of the folders."""


class InvalidName(CopyError):
    """A value is not one of the folders."""


class InvalidContents(CopyError):
    """A value is not contents."""


class InvalidHaving(CopyError):
    """A value is not a tuple of different ones of the folders."""


class InvalidLists(CopyError):
    """A value is not lists."""


class InvalidTimes(CopyError):
    """A value is not a number of repetitions."""


class InvalidWanted(CopyError):
    """A value is not a tuple of 1 to 20 different names."""


class InvalidGroup(CopyError):
    """A value is not a tuple of one or more of the wanted names."""


class InvalidHeads(CopyError):
    """A value is not heads."""


class InvalidLength(CopyError):
    """A value is not the length of a list."""


class InvalidNumber(CopyError):
    """A value is not the number of a list."""


class InvalidReports(CopyError):
    """A value is not reports of the folders."""


class InvalidPath(CopyError):
    """A value is not a path."""


class InvalidText(CopyError):
    """A value is not the text of a file."""


class InvalidWords(CopyError):
    """A text is not that of a script or of lists; index is its first wrong part."""

    def __init__(self, index=None):
        CopyError.__init__(self, "not the text of a script or of lists")
        self.index = index


class InvalidCommand(CopyError):
    """A value is not a line that the console takes."""


class NotAlike(CopyError):
    """Two lists have different folders."""


class NotPossible(CopyError):
    """No script leads to the heads."""


class NotList(CopyError):
    """A value is not a list of the folder."""


class Contradiction(CopyError):
    """Reports contradict one another; value is a contradiction of them."""

    def __init__(self, value):
        CopyError.__init__(self, "the reports contradict one another")
        self.value = value


class SameFolder(CopyError):
    """A folder would be copied into itself."""


class TooMany(CopyError):
    """A folder would have too many files, or a script too many copies."""


class NothingToUndo(CopyError):
    """All operations are undone."""
