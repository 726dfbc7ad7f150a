"""Runs all tests, with each Python that is found here, and tells how many ran.

Each folder runs in a process of its own, so that two test files of one name in two folders don't mix.
"""

import glob
import os
import re
import subprocess
import sys

ROOT = os.path.dirname(os.path.dirname(os.path.abspath(__file__)))
OWN_TESTS = os.path.join(ROOT, "tests")
SHARED_TESTS = os.path.join(os.path.dirname(ROOT), "shared", "tests")
# The program must mean the same under both.
VERSIONS = ("3.11", "3.13")


def version_of(python):
    """The version that a command tells of itself, or None where it does not run."""
    ask = "import sys; print('%d.%d' % sys.version_info[:2])"
    try:
        told = subprocess.run([python, "-c", ask], capture_output=True, text=True)
    except OSError:
        return None
    return told.stdout.strip() if told.returncode == 0 else None


def pythons():
    """A command for each version that is found, the one that runs this among them."""
    found = {version_of(sys.executable): sys.executable}
    for version in VERSIONS:
        elsewhere = glob.glob(os.path.expanduser(f"~/.pyenv/versions/{version}.*/bin/python3"))
        for place in ["python" + version] + sorted(elsewhere):
            if version not in found and version_of(place) == version:
                found[version] = place
    return found


def test_folders():
    """The folders with tests, from the two places where they lie."""
    found = set()
    for top in (OWN_TESTS, SHARED_TESTS):
        for path in glob.glob(os.path.join(top, "**", "test_*.py"), recursive=True):
            found.add(os.path.dirname(path))
    return sorted(found)


def run_folder(python, folder):
    """The numbers of tests that passed and that failed in a folder."""
    environment = dict(os.environ, PYTHONPATH=ROOT)
    command = [python, "-m", "unittest", "discover", "-s", folder, "-t", folder, "-p", "test_*.py"]
    told = subprocess.run(command, cwd=ROOT, env=environment, stderr=subprocess.PIPE, text=True)
    sys.stdout.write(told.stderr)
    ran = re.findall(r"^Ran (\d+) tests? in", told.stderr, re.MULTILINE)
    count = int(ran[-1]) if ran else 0
    failed = sum(int(number) for number in re.findall(r"(?:failures|errors|successes)=(\d+)", told.stderr))
    if told.returncode != 0:
        failed = max(failed, 1)
    # A folder whose test files hold no test tells nothing, and must not pass for a good one.
    if count == 0 and failed == 0:
        failed = 1
    return max(count - failed, 0), failed


def main():
    passed = 0
    failed = 0
    commands = pythons()
    folders = test_folders()
    if OWN_TESTS not in folders:
        print("the project's own tests are not there")
        failed += 1
    if not os.path.isdir(SHARED_TESTS):
        print("there is no ../shared/tests beside this checkout")
    for version, python in sorted(commands.items()):
        for folder in folders:
            print(f"== Python {version}: {os.path.relpath(folder, ROOT)}", flush=True)
            good, bad = run_folder(python, folder)
            passed += good
            failed += bad
    for version in VERSIONS:
        if version not in commands:
            print(f"Python {version} is not here: nothing was run with it")
    print(f"{passed} passed, {failed} failed")
    return 1 if failed else 0


if __name__ == "__main__":
    sys.exit(main())
