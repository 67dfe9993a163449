"""Contents that change, one copy or write after the other, and back again."""

from copyover.checks import check_name
from copyover.contents import MOST_FILES, check_contents, is_path, sorted_files
from copyover.copies import first_lists, lists_behind
from copyover.errors import InvalidPath, InvalidText, NothingToUndo, SameFolder, TooMany


def check_path(path):
    """Raise InvalidPath if a value is not a path."""
    if not is_path(path):
        raise InvalidPath("a path has 1 to 20 characters from a to z, 0 to 9, '.' and '/'")


class Shelf:
    """Contents that change."""

    def __init__(self, contents):
        check_contents(contents)
        # Each change puts a new dict in the place of the files of a folder, so that those before it can be kept.
        self._files = {name: dict(contents[name]) for name in sorted(contents)}
        # For each operation the copy, or None for a write, the folder that it changed, and the files before it.
        self._done = []

    def _put(self, copy, name, put):
        """Put files into a folder, by a copy or, where it is None, by a write."""
        before = self._files[name]
        files = {**before, **put}
        if len(files) > MOST_FILES:
            raise TooMany("a folder has at most 40 files")
        self._done.append((copy, name, before))
        self._files[name] = files

    def _copy(self, word, source, target):
        """Make a copy, and return the paths that were put into the target."""
        check_name(source, self._files)
        check_name(target, self._files)
        if source == target:
            raise SameFolder("a folder is not copied into itself")
        files = self._files[source]
        there = self._files[target]
        put = {path: files[path] for path in files if word == "over" or path not in there}
        self._put((word, source, target), target, put)
        return sorted(put)

    def over(self, source, target):
        """Make a copy that replaces files, and return the paths that were put into the target."""
        return self._copy("over", source, target)

    def skip(self, source, target):
        """Make a copy that leaves files as they are, and return the paths that were put into the target."""
        return self._copy("skip", source, target)

    def write(self, name, path, text):
        """Put a file into a folder, or replace it."""
        check_name(name, self._files)
        check_path(path)
        if not isinstance(text, str):
            raise InvalidText("a text is a string")
        self._put(None, name, {path: text})

    def read(self, name, path):
        """Return the text of a file, or None if there is none."""
        check_name(name, self._files)
        check_path(path)
        return self._files[name].get(path)

    def undo(self):
        """Revert the last copy or write that is not undone."""
        if len(self._done) == 0:
            raise NothingToUndo("all operations are undone")
        _, name, before = self._done.pop()
        self._files[name] = before

    def copy_of(self):
        """Return an independent shelf with the same contents and the same operations to undo."""
        other = Shelf(self.contents_now)
        other._done = list(self._done)
        return other

    @property
    def contents_now(self):
        """The contents."""
        return {name: sorted_files(self._files[name]) for name in self._files}

    @property
    def script_now(self):
        """The copies behind the last write that is not undone."""
        script = ()
        for copy, _, _ in self._done:
            script = () if copy is None else script + (copy,)
        return script

    @property
    def lists_now(self):
        """The lists behind these copies."""
        return lists_behind(first_lists(self._files), self.script_now)

    def __len__(self):
        return len(self._done)

    def __eq__(self, other):
        return isinstance(other, Shelf) and self._files == other._files
