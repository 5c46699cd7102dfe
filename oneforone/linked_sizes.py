"""The sizes at which readers have links, and what their boards have to be there."""

from oneforone.blocks import even, seen, sharp
from oneforone.failures import UnevenReader, UnseenReader, UnsharpReader
from oneforone.links import links


def linked_sizes(scene):
    """The ascending list of the tuples of a reader and a size at which this reader has a link."""
    found = []
    for reader in range(len(scene.readers)):
        sizes = sorted(set([link[0] for link in links(scene, reader)]))
        found.extend([(reader, size) for size in sizes])
    return found


def check_even_readers(scene):
    """Raise UnevenReader unless the boards are even where there are links."""
    for reader, size in linked_sizes(scene):
        if not even(scene.board(reader, size)):
            raise UnevenReader(reader, size)


def check_seen_readers(scene):
    """Raise UnevenReader or UnseenReader unless the boards are even and seen where there are links."""
    check_even_readers(scene)
    for reader, size in linked_sizes(scene):
        if not seen(scene.board(reader, size)):
            raise UnseenReader(reader, size)


def check_sharp_readers(scene):
    """Raise UnsharpReader unless the boards are sharp where there are links."""
    for reader, size in linked_sizes(scene):
        if not sharp(scene.board(reader, size)):
            raise UnsharpReader(reader, size)
