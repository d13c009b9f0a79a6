"""The exceptions of the package: one class for each kind of refusal."""


class LaminaError(ValueError):
    """The base class of all exceptions that the package raises."""


class NotValid(LaminaError):
    """An argument is outside of its bounds."""


class PowerOff(LaminaError):
    """The power is off or fails during the call, or no disk is mounted."""


class NoProcess(LaminaError):
    """There is no such process."""


class BadHandle(LaminaError):
    """The process has no such descriptor, or the file is not open for this."""


class NoVolume(LaminaError):
    """There is no such volume."""


class ReadOnly(LaminaError):
    """The volume is a snapshot."""


class BadName(LaminaError):
    """A name or a path is not valid."""


class Missing(LaminaError):
    """Nothing has that name or number."""


class WrongKind(LaminaError):
    """A file where a directory is needed, a snapshot where a volume is needed, or the reverse."""


class Exists(LaminaError):
    """The name is already in use."""


class LoopFound(LaminaError):
    """A directory or an owner would be below itself."""


class CrossVolume(LaminaError):
    """Two paths are in different volumes."""


class Busy(LaminaError):
    """The object is in use."""


class NotEmpty(LaminaError):
    """The directory has entries, or other objects depend on the object."""


class TooMany(LaminaError):
    """A bound on a number of objects would be passed."""


class TooLong(LaminaError):
    """A file would have more than 64 units."""


class OverQuota(LaminaError):
    """A limit of an owner would be passed."""


class NoSpace(LaminaError):
    """There are not enough free blocks."""


class BadImage(LaminaError):
    """The disk does not contain a valid file system."""
