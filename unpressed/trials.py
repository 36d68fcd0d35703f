"""Deeds that are taken back unless they are kept."""

from unpressed.errors import PressError


class Trial:
    """Makes a packer at the end of a `with` block as it was when the block began, unless it is kept."""

    def __init__(self, packer):
        self._packer = packer
        self._before = packer.files
        # None until it is kept: at the end of a block, `is None` is all that may be asked.
        self._kept = None

    def __enter__(self):
        self._before = self._packer.files
        return self

    def __exit__(self, kind, value, trace):
        packer = self._packer
        if self._kept is None:
            packer.files = self._before

    def keep(self):
        """Lets all stay that is done in the block."""
        self._kept = True


def perform(packer, deeds):
    """Does all deeds, and returns for each of them what it returns or the name of its error."""
    return tuple([_answer(packer, deed) for deed in deeds])


def _answer(packer, deed):
    if deed[0] == "trial":
        return _tried(packer, deed[1], deed[2])
    try:
        return _done(packer, deed)
    except PressError as caught:
        return type(caught).__name__


def _tried(packer, deeds, kept):
    with Trial(packer) as trial:
        answers = perform(packer, deeds)
        if kept:
            trial.keep()
    return answers


def _done(packer, deed):
    """Does a deed that is no trial, and returns what its method returns."""
    word = deed[0]
    name = deed[1]
    if word == "put":
        return packer.put(name, deed[2])
    if word == "add":
        return packer.add(name, deed[2])
    if word == "change":
        return packer.change(name, deed[2], deed[3])
    if word == "put_in":
        return packer.put_in(name, deed[2], deed[3])
    if word == "take_out":
        return packer.take_out(name, deed[2])
    if word == "attach":
        return packer.attach(name, deed[2])
    if word == "divide":
        return packer.divide(name, deed[2], deed[3])
    if word == "fuse":
        return packer.fuse(name)
    if word == "rename":
        return packer.rename(name, deed[2])
    return packer.drop(name)
