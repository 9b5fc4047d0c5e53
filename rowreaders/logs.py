"""Lines of deeds, done on benches."""

from rowreaders.benches import Bench
from rowreaders.checks import ALPHABET, number_in
from rowreaders.errors import InvalidLine, InvalidLog, InvalidSign, InvalidStand, TooMany
from rowreaders.readers import check_reader


def done(bench, line):
    """Do the deed of a line on a bench, and return what it returns."""
    words = line.split(" ") if isinstance(line, str) else [""]
    numbers = [number_in(word) for word in words]
    if words == ["grow"]:
        return bench.grow()
    if words[0] == "turn" and len(words) == 2 and numbers[1] is not None:
        return bench.turn(numbers[1])
    if words[0] == "lead" and is_lead(words, numbers):
        return bench.lead(numbers[1], words[2], numbers[3])
    raise InvalidLine(line)


def is_lead(words, numbers):
    """Whether these are the words of a line that lets an arrow lead elsewhere."""
    if len(words) != 4 or numbers[1] is None or len(words[2]) != 1 or words[2] not in ALPHABET:
        return False
    return numbers[3] is not None or words[3] == "-"


def played(reader, lines):
    """A new bench with a reader, on which the deeds of some lines have been done."""
    check_reader(reader)
    bench = Bench(reader)
    if not isinstance(lines, tuple):
        raise InvalidLog(None)
    for index in range(len(lines)):
        try:
            done(bench, lines[index])
        except (InvalidLine, InvalidStand, InvalidSign, TooMany):
            raise InvalidLog(index) from None
    return bench
