"""What can come of moving folders, in any tree whatever."""
