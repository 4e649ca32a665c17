"""A desk: a stream that is changed step by step, and back."""

from bandpress.errors import BadStream, NothingToUndo
from bandpress.layout import packet_keys
from bandpress.streams import read_stream, stream_of
from bandpress.transcoding import crop, keep_components, keep_layers, keep_levels, reorder
from bandpress.unpacking import picture_of


class Desk:
    """A whole stream, the changes of it, and the way back to what was there before each of them."""

    def __init__(self, data):
        frame, options, packets = read_stream(data)
        if len(packets) < len(packet_keys(frame, options)):
            raise BadStream(len(data))
        # The last item is the stream as it is now, as a tuple (frame, options, packets).
        self._states = [(frame, options, packets)]

    def keep_layers(self, layers):
        """Keeps the first layers."""
        frame, options, packets = self._states[-1]
        self._states.append(keep_layers(frame, options, packets, layers))

    def keep_levels(self, levels):
        """Keeps the resolutions 0 to levels."""
        frame, options, packets = self._states[-1]
        self._states.append(keep_levels(frame, options, packets, levels))

    def keep_components(self, many):
        """Keeps the first components."""
        frame, options, packets = self._states[-1]
        self._states.append(keep_components(frame, options, packets, many))

    def crop(self, tiles):
        """Keeps the tiles in a rectangle of the grid of tiles."""
        frame, options, packets = self._states[-1]
        self._states.append(crop(frame, options, packets, tiles))

    def reorder(self, order):
        """Changes the order of progression."""
        frame, options, packets = self._states[-1]
        self._states.append(reorder(frame, options, packets, order))

    def undo(self):
        """Takes the last step back."""
        if len(self._states) == 1:
            raise NothingToUndo("there is no step that can be taken back")
        self._states.pop()

    def shown(self):
        """The picture that all packets tell."""
        frame, options, packets = self._states[-1]
        return picture_of(frame, options, packets)

    def as_stream(self):
        """The stream as it is now."""
        frame, options, packets = self._states[-1]
        return stream_of(frame, options, packets)

    @property
    def depth(self):
        """How many steps can be taken back."""
        return len(self._states) - 1
