"""Numbers as bits."""


def width(options):
    """The least number of bits that tell so many options apart."""
    return (options - 1).bit_length()


def number_bits(number, options):
    """The number, out of so many options, in exactly as many bits as they need."""
    if options == 1:
        return ""
    digits = f"{number:b}"
    return digits.zfill(width(options))


def whole_log(number):
    """The greatest whole number `g` for which 2 ** g is at most the number."""
    return number.bit_length() - 1
